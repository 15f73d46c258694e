/- The code's lay: one step of a plan on the tape. · The code's plans: param, dense. · The code's plans: dense, layer. · The code's plans: layer. -/
import Derived.Test.YtiampagapgjedaaGreatDoorP22
import Derived.Test.YtiampagapgjedaaGreatDoorP26
set_option linter.unusedVariables false
set_option linter.unusedSimpArgs false
set_option maxHeartbeats 16000000
set_option maxRecDepth 16000
namespace Go.Proofs.YtiampagapgjedaaGreatDoor.Wd
open Go.RowKit Fx
/-- What one step makes of the nodes: an error, its number, the nodes. -/
def stE (f:Int) (ns:List Nd) (st:Sp):Int:=if st.op=1 then leafE ns st.D st.X else doE ns st.op (f+st.a) (f+st.b) st.k
def stR (f:Int) (ns:List Nd) (st:Sp):Int:=if st.op=1 then leafR ns st.D st.X else doR ns st.op (f+st.a) (f+st.b) st.k
def stN (f:Int) (ns:List Nd) (st:Sp):List Nd:=if st.op=1 then leafN ns st.D st.X else doN ns st.op (f+st.a) (f+st.b) st.k
/-- A step that a plan may hold. -/
structure SpOk (st:Sp):Prop where
 ra:0≤st.a∧st.a≤1000
 rb:0≤st.b∧st.b≤1000
 rk:0≤st.k∧st.k≤1000
 rop:1≤st.op∧st.op≤14
 rD:RI st.D
 rX:RI st.X
theorem lay_any (B tb:Nat) (ns:List Nd) (hG:NodesG ns) (st:Sp) (hok:SpOk st) (hRk:st.op≠1→RkC st.op) (f:Int) (hf:0≤f∧f≤1000) (p:Option Addr) (n c:Nat) (p2:Option Addr) (n2 c2:Nat) (w:World) (hT:TapC w B tb ns) (hTz:Hid (Tz w)) (h1:Nums .i64 w (.slice p n c) st.D) (h2:Nums .i64 w (.slice p2 n2 c2) st.X):
  Calls Tryz.prog 78 #[.pointer (some ⟨tb,0,none⟩),.agg #[.int .i64 st.op,.int .i64 st.a,.int .i64 st.b,.int .i64 st.k,.slice p n c,.slice p2 n2 c2,.bool st.par],.int .i64 f] w fun e w'=>e = .returned (.tuple #[.int .i64 (stR f ns st),.int .i64 (stE f ns st)])∧TapC w' B tb (stN f ns st)∧Below B w w'∧Only SC w w'∧Spar2 tb w w':=by
 obtain ⟨op,a,b,k,D,X,par⟩:=st
 obtain ⟨ra,rb,rk,rop,rD,rX⟩:=hok
 simp only [] at ra rb rk rop rD rX h1 h2 hRk ⊢
 obtain ⟨R,eR⟩:∃ R,stR f ns ⟨op,a,b,k,D,X,par⟩=R:=⟨_,rfl⟩
 obtain ⟨E,eE⟩:∃ R,stE f ns ⟨op,a,b,k,D,X,par⟩=R:=⟨_,rfl⟩
 obtain ⟨NS,eN⟩:∃ R,stN f ns ⟨op,a,b,k,D,X,par⟩=R:=⟨_,rfl⟩
 rw [eR,eE,eN]
 have hzB:B≤w.heap.size:=by
  obtain ⟨hb,v,xs,hv,_⟩:=hT
  exact Nat.le_trans hb (Nat.le_of_lt (heap_lt hv))
 have HZ:Hid (B≤w.heap.size):=hzB
 by_cases h0:op=1
 ·subst h0
  have cl:Hid (∀ W,Below w.heap.size w W→Calls Tryz.prog 104 #[.pointer (some ⟨tb,0,none⟩),.agg #[.slice p n c,.slice p2 n2 c2]] W fun e w'=>e = .returned (.tuple #[.int .i64 R,.int .i64 E])∧TapC w' B tb NS∧Below B W w'∧Only SC W w'∧Spar2 tb W w'):=fun W hW=>by
   have:=cleaf_sp B tb ns hG p p2 n c n2 c2 D X rD rX W (hT.up hW) (h1.up hW) (h2.up hW)
   rw [← eR,← eE,← eN]
   exact this
  clear eR eE eN hT h1 h2 hRk rD rX hzB
  go_enter Tryz.func78,Tryz.ntmps78
  go_wp2_with fail
  generalize hW0:World.alloc _ _=W0
  have HB0:Hid (Below w.heap.size w W0):=by rw [← hW0];exact up_alloc w _
  clear hW0
  refine (cl.out W0 HB0.out).mono ?_
  rintro e w1 ⟨rfl,hT1,hB1,hO1,hS1⟩
  have HF:Hid (TapC w1 B tb NS∧Below B w w1∧Only SC w w1∧Spar2 tb w w1):=⟨hT1,(HB0.out.mono HZ.out).trans hB1,(Only.of HB0.out).trans hO1,Spar2.trans (Spar2.of HB0.out) hS1 HB0.out.size⟩
  clear hT1 hB1 hO1 hS1 cl
  go_wp2
  go_ret2
  exact ⟨rfl,HF.out⟩
 ·have h0':(op==1)=false:=by simpa using h0
  obtain ⟨fa,efa⟩:∃ x,f+a=x:=⟨_,rfl⟩
  obtain ⟨fb,efb⟩:∃ x,f+b=x:=⟨_,rfl⟩
  have cd:Hid (∀ W,Below w.heap.size w W→Calls Tryz.prog 105 #[.pointer (some ⟨tb,0,none⟩),.int .i64 op,.int .i64 fa,.int .i64 fb,.int .i64 k] W fun e w'=>e = .returned (.tuple #[.int .i64 R,.int .i64 E])∧TapC w' B tb NS∧Below B W w'∧Only SC W w'∧Spar2 tb W w'):=fun W hW=>by
   have:=cdo_sp B tb ns hG op fa fb k (hRk h0) (by unfold InR;omega) W (hT.up hW) (Hid.up_tz hTz hW)
   rw [← eR,← eE,← eN]
   unfold stR stE stN
   simp only [if_neg h0]
   rw [efa,efb]
   exact this
  have hfa:0≤fa∧fa≤2000:=by omega
  have hfb:0≤fb∧fb≤2000:=by omega
  clear eR eE eN hT h1 h2 hRk rD rX hzB
  go_enter Tryz.func78,Tryz.ntmps78
  go_wp2_with fail
  generalize hW0:World.alloc _ _=W0
  have HB0:Hid (Below w.heap.size w W0):=by rw [← hW0];exact up_alloc w _
  clear hW0
  refine (cd.out W0 HB0.out).mono ?_
  rintro e w1 ⟨rfl,hT1,hB1,hO1,hS1⟩
  have HF:Hid (TapC w1 B tb NS∧Below B w w1∧Only SC w w1∧Spar2 tb w w1):=⟨hT1,(HB0.out.mono HZ.out).trans hB1,(Only.of HB0.out).trans hO1,Spar2.trans (Spar2.of HB0.out) hS1 HB0.out.size⟩
  clear hT1 hB1 hO1 hS1 cd
  go_wp2
  go_ret2
  exact ⟨rfl,HF.out⟩
end Go.Proofs.YtiampagapgjedaaGreatDoor.Wd
namespace Go.Proofs.YtiampagapgjedaaGreatDoor.Wd
open Go.RowKit
theorem Kept.none (B:Nat) (W:World):Kept B W (.slice none 0 0) []:=fun _ _=>.inl ⟨rfl,rfl⟩
theorem Kept.cut {B:Nat} {W:World} {p:Option Addr} {n c i j:Nat} {l:List Int} (h:Kept B W (.slice p n c) l) (hij:i≤j) (hj:j≤n) (hl:l.length=n) (hn:n≤c):Kept B W (sliced p i j c 1) ((l.drop i).take (j - i)):=fun W' hR=>cut_nums hij hj hl hn (h W' hR)
theorem param_any (B pb:Nat) (sts:List Sp) (rest:List Int) (hfew:sts.length≤200) (d:List Int) (hsm:Smal d) (m:Nat) (hm:prodI d=(m:Int)) (hmr:m≤rest.length) (hrest:rest.length≤1073741824) (p:Option Addr) (n c:Nat) (wa w:World) (hP:PlanO B wa w pb sts rest) (h1:Kept B wa (.slice p n c) d):
  Calls Tryz.prog 102 #[.pointer (some ⟨pb,0,none⟩),.slice p n c] w fun e w'=>e = .returned (.int .i64 (sts.length:Int))∧PlanO B wa w' pb (sts++[⟨1,0,0,0,d,rest.take m,true⟩]) (rest.drop m)∧Rn B w w':=by
 have HP:Hid (PlanO B wa w pb sts rest):=hP
 obtain ⟨hBp,hra,pS,nS',cS,pR,nR,cR,xs,hb,ho,hn,hc,hk,hrc,hrl⟩:=hP
 have hzB:B≤w.heap.size:=Nat.le_trans hBp (Nat.le_of_lt (heap_lt hb))
 have cs:=csize_any _ d hsm w (h1 w hra.r4)
 rw [hm] at cs
 obtain ⟨N,eN⟩:∃ N,sts.length=N:=⟨_,rfl⟩
 have HN:Hid (sts.length=N∧N≤200):=⟨eN,by omega⟩
 rw [eN] at ho hn ⊢
 subst hn
 obtain ⟨⟨x0,y0⟩,⟨x1,y1⟩⟩:=box_2 hb
 have hcutH:=cutF_h pR nR cR m (by omega)
 have hcutL:=cutF_l pR nR cR m (by omega)
 obtain ⟨qh,eqh⟩:=sliced_is pR 0 m cR
 obtain ⟨ql,eql⟩:=sliced_is pR m nR cR
 have kh:=hk.cut (Nat.zero_le m) (by omega) hrl hrc
 have kl:=hk.cut (show m≤nR by omega) (Nat.le_refl _) hrl hrc
 rw [List.drop_zero,Nat.sub_zero] at kh
 rw [List.take_of_length_le (by rw [List.length_drop];omega)] at kl
 rw [eqh] at hcutH kh
 rw [eql] at hcutL kl
 simp only [Nat.sub_zero] at hcutH kh
 have HK:Hid (Kept B wa (.slice qh m cR) (rest.take m)∧Kept B wa (.slice ql (nR - m) (cR - m)) (rest.drop m)∧Kept B wa (.slice p n c) d):=⟨kh,kl,h1⟩
 have HW:Hid (B≤pb∧B≤w.heap.size∧w.heap[pb]?=some (.cells #[.slice pS N cS,.slice pR nR cR] 134 (0,0))∧w.ownsRow B 137 7 (.slice pS N cS) N xs∧StsC B wa sts xs∧(rest.drop m).length=nR - m∧nR - m≤cR - m∧Rn B wa w):=⟨hBp,hzB,hb,ho,hc,by rw [List.length_drop];omega,by omega,hra⟩
 have hzp:=cell_size x0
 clear hBp hb ho hc hk hrc hrl hzB kh kl h1 hra eqh eql hm hmr hrest hfew hsm eN
 go_enter Tryz.func102,Tryz.ntmps102
 go_wp2_with fail
 refine cs.mono ?_
 rintro e w1 ⟨rfl,rfl⟩
 clear cs
 have HV:Hid (PlanO B wa ((w1.setCell ⟨pb,1,none⟩ (.slice ql (nR - m) (cR - m))).alloc (.cells #[.slice p n c,.slice qh m cR] 63)) pb sts (rest.drop m)∧Rn B w1 ((w1.setCell ⟨pb,1,none⟩ (.slice ql (nR - m) (cR - m))).alloc (.cells #[.slice p n c,.slice qh m cR] 63))):=by
  obtain ⟨h1,h2,h3,h4,h5,h6,h7,h8⟩:=HW.out
  have hR:Rn B w1 (w1.setCell ⟨pb,1,none⟩ (.slice ql (nR - m) (cR - m))):=⟨(Below.refl _ _).setCell (p:=⟨pb,1,none⟩) h1 _,Only.set h3 (by simp)⟩
  have hv:(w1.setCell ⟨pb,1,none⟩ (.slice ql (nR - m) (cR - m))).heap[pb]?=some (.cells #[.slice pS N cS,.slice ql (nR - m) (cR - m)] 134 (0,0)):=by
   rw [heap_setat h3]
   rfl
  have hP1:PlanO B wa (w1.setCell ⟨pb,1,none⟩ (.slice ql (nR - m) (cR - m))) pb sts (rest.drop m):=⟨h1,h8.trans hR,_,_,_,_,_,_,_,hv,by rw [HN.out.1];exact owns_only (S:=[134]) h4 (Only.set h3 (by simp)) (by decide),HN.out.1,h5,HK.out.2.1,h7,h6⟩
  exact ⟨hP1.up (up_alloc _ _),hR.trans (Rn.of (Nat.le_trans h2 hR.size) (up_alloc _ _))⟩
 go_wp2_with fail
 have ca:=padd_any B pb sts (rest.drop m) (by rw [HN.out.1];exact HN.out.2) ⟨1,0,0,0,d,rest.take m,true⟩ p n c qh m cR wa _ HV.out.1 HK.out.2.2 HK.out.1
 rw [HN.out.1] at ca
 refine ca.mono ?_
 rintro e w2 ⟨rfl,hP2,hR2⟩
 have HF:Hid (PlanO B wa w2 pb (sts++[⟨1,0,0,0,d,rest.take m,true⟩]) (rest.drop m)∧Rn B w1 w2):=⟨hP2,HV.out.2.trans hR2⟩
 clear ca hP2 hR2 HV x0 x1 y0 y1
 go_wp2
 go_ret
 exact ⟨rfl,HF.out⟩
/-- A step that is no Leaf. -/
abbrev spD (op a b k:Int):Sp:=⟨op,a,b,k,[],[],false⟩
theorem padd_do (B pb N:Nat) (sts:List Sp) (rest:List Int) (hN:sts.length=N) (hfew:N≤200) (op a b k:Int) (wa w:World) (hP:PlanO B wa w pb sts rest):
  Calls Tryz.prog 76 #[.pointer (some ⟨pb,0,none⟩),.agg #[.int .i64 op,.int .i64 a,.int .i64 b,.int .i64 k,.slice none 0 0,.slice none 0 0,.bool false]] w fun e w'=>e = .returned (.int .i64 (N:Int))∧Hid (PlanO B wa w' pb (sts++[spD op a b k]) rest∧(sts++[spD op a b k]).length=N+1∧Rn B w w'):=by
 subst hN
 refine (padd_any B pb sts rest hfew (spD op a b k) none 0 0 none 0 0 wa w hP (Kept.none _ _) (Kept.none _ _)).mono ?_
 rintro e w' ⟨h1,h2,h3⟩
 exact ⟨h1,h2,by simp,h3⟩
/-- What dense lays: its steps, and the last one's number. -/
def denS (two:Bool) (N:Nat) (m r l:Int):List Sp:=if two then [spD 14 l 0 0,spD 4 m (N:Int) 0,spD 8 ((N+1:Nat):Int) 0 1,spD 2 ((N+2:Nat):Int) r 0] else [spD 4 m l 0,spD 8 (N:Int) 0 1,spD 2 ((N+1:Nat):Int) r 0]
def denN (two:Bool) (N:Nat):Nat:=if two then N+3 else N+2
theorem dense_any (B pb N:Nat) (sts:List Sp) (rest:List Int) (hN:sts.length=N) (hfew:N≤190) (m r l:Int) (p:Option Addr) (n c:Nat) (wa w:World) (hP:PlanO B wa w pb sts rest):
  Calls Tryz.prog 103 #[.pointer (some ⟨pb,0,none⟩),.int .i64 m,.int .i64 r,.slice p n c,.int .i64 l] w fun e w'=>e = .returned (.int .i64 (denN (decide (n=2)) N:Int))∧PlanO B wa w' pb (sts++denS (decide (n=2)) N m r l) rest∧Rn B w w':=by
 have HP:Hid (PlanO B wa w pb sts rest∧sts.length=N∧Rn B w w):=⟨hP,hN,Rn.refl _ _⟩
 obtain ⟨R,eR⟩:∃ R,denN (decide (n=2)) N=R:=⟨_,rfl⟩
 obtain ⟨S,eS⟩:∃ S,sts++denS (decide (n=2)) N m r l=S:=⟨_,rfl⟩
 have HR:Hid (denN (decide (n=2)) N=R∧sts++denS (decide (n=2)) N m r l=S):=⟨eR,eS⟩
 rw [eR,eS]
 clear hP eR eS hN
 go_enter Tryz.func103,Tryz.ntmps103
 by_cases h2:n=2
 ·subst h2
  go_wp2_with fail
  refine (padd_do B pb N _ rest HP.out.2.1 (by omega) 14 l 0 0 wa w HP.out.1).mono ?_
  rintro e w1 ⟨rfl,H1⟩
  go_wp2_with fail
  refine (padd_do B pb (N+1) _ rest H1.out.2.1 (by omega) 4 m (N:Int) 0 wa w1 H1.out.1).mono ?_
  rintro e w2 ⟨rfl,H2⟩
  go_wp2_with fail
  refine (padd_do B pb (N+1+1) _ rest H2.out.2.1 (by omega) 8 ((N+1:Nat):Int) 0 1 wa w2 H2.out.1).mono ?_
  rintro e w3 ⟨rfl,H3⟩
  go_wp2_with fail
  refine (padd_do B pb (N+1+1+1) _ rest H3.out.2.1 (by omega) 2 ((N+2:Nat):Int) r 0 wa w3 H3.out.1).mono ?_
  rintro e w4 ⟨rfl,H4⟩
  have e1:R=N+3:=by rw [← HR.out.1];rfl
  have HF:Hid (PlanO B wa w4 pb S rest∧Rn B w w4):=by
   refine ⟨?_,((H1.out.2.2.trans H2.out.2.2).trans H3.out.2.2).trans H4.out.2.2⟩
   rw [← HR.out.2]
   have:=H4.out.1
   simp only [List.append_assoc,List.cons_append,List.nil_append] at this
   exact this
  subst e1
  clear H1 H2 H3 H4
  go_wp2
  go_ret
  exact ⟨by simp;omega,HF.out⟩
 ·have h2':((n:Int)==2)=false:=by simpa using (show (n:Int)≠2 by omega)
  go_wp2_with fail
  refine (padd_do B pb N _ rest HP.out.2.1 (by omega) 4 m l 0 wa w HP.out.1).mono ?_
  rintro e w2 ⟨rfl,H2⟩
  go_wp2_with fail
  refine (padd_do B pb (N+1) _ rest H2.out.2.1 (by omega) 8 (N:Int) 0 1 wa w2 H2.out.1).mono ?_
  rintro e w3 ⟨rfl,H3⟩
  go_wp2_with fail
  refine (padd_do B pb (N+1+1) _ rest H3.out.2.1 (by omega) 2 ((N+1:Nat):Int) r 0 wa w3 H3.out.1).mono ?_
  rintro e w4 ⟨rfl,H4⟩
  have e1:R=N+2:=by rw [← HR.out.1,decide_eq_false h2];rfl
  have HF:Hid (PlanO B wa w4 pb S rest∧Rn B w w4):=by
   refine ⟨?_,(H2.out.2.2.trans H3.out.2.2).trans H4.out.2.2⟩
   rw [← HR.out.2,decide_eq_false h2]
   have:=H4.out.1
   simp only [List.append_assoc,List.cons_append,List.nil_append] at this
   exact this
  subst e1
  clear H2 H3 H4
  go_wp2
  go_ret
  exact ⟨by simp;omega,HF.out⟩
/-- A Leaf of parameters. -/
abbrev spL (D X:List Int):Sp:=⟨1,0,0,0,D,X,true⟩
/-- The Leafs of the first j parameters, and what is left. -/
def prS (PP:List (List Int)) (rest:List Int):Nat→List Sp×List Int
 | 0=>([],rest)
 | j+1=>((prS PP rest j).1++[spL (shA PP j) ((prS PP rest j).2.take (prodI (shA PP j)).toNat)],(prS PP rest j).2.drop (prodI (shA PP j)).toNat)
theorem prS_len {PP:List (List Int)} {rest:List Int}:∀ j,(∀ i,i < j→0≤prodI (shA PP i))→(∀ i,i≤j→sumP PP i≤(rest.length:Int))→((prS PP rest j).2.length:Int)=(rest.length:Int) - sumP PP j∧(prS PP rest j).1.length=j
 | 0,_,_=>by simp [prS,sumP]
 | j+1,h,h2=>by
  obtain ⟨ih,ih2⟩:=prS_len j (fun i hi=>h i (by omega)) (fun i hi=>h2 i (by omega))
  have h3:=h j (by omega)
  have h4:=h2 (j+1) (by omega)
  simp only [sumP] at h4 ⊢
  simp only [prS,List.length_drop,List.length_append,List.length_cons,List.length_nil]
  omega
/-- The numbers of nodes, from N on. -/
def nodL (N j:Nat):List Int:=(List.range j).map fun i=>((N+i:Nat):Int)
theorem nodL_succ (N j:Nat):nodL N (j+1)=nodL N j++[((N+j:Nat):Int)]:=by simp [nodL,List.range_succ]
theorem Rn.low {B:Nat} {Wa W W':World} (h:Rn B Wa W) (hB:B≤Wa.heap.size) (h2:Below Wa.heap.size W W'):Rn B Wa W':=⟨h.bel.trans (h2.mono hB),Nat.le_trans h.onl.1 h2.size,fun k hk hp=>(h2.block k hk).trans (h.onl.2 k hk hp)⟩
theorem PlanO.int {B:Nat} {Wa W W':World} {pb:Nat} {sts:List Sp} {rest:List Int} (h:PlanO B Wa W pb sts rest) (hB:B≤Wa.heap.size) (ho:Only [3] W W') (h2:Below Wa.heap.size W W'):PlanO B Wa W' pb sts rest:=by
 obtain ⟨hb,hr,p,n,c,p2,n2,c2,xs,h1,h3,h4⟩:=h
 exact ⟨hb,hr.low hB h2,p,n,c,p2,n2,c2,xs,ho.keep h1 (by decide),owns_only h3 ho (by decide),h4⟩
theorem PlanO.rn {B:Nat} {Wa W:World} {pb:Nat} {sts:List Sp} {rest:List Int} (h:PlanO B Wa W pb sts rest):Rn B Wa W:=h.2.1
theorem Rn.block {B:Nat} {Wa W:World} (h:Rn B Wa W) {k:Nat} {cs:Array Value} {e:TypeId} {fz:Nat×Nat} (hk:Wa.heap[k]?=some (.cells cs e fz)) (he:e∉S2):W.heap[k]?=some (.cells cs e fz):=h.onl.keep hk he
theorem OwnS.dims {B:Nat} {Wa:World} {p:Option Addr} {n c:Nat} {PP:List (List Int)} (h:OwnS Wa 0 (.slice p n c) PP) (hn:PP.length=n):∀ j,j < n→∃ q o a b d,p=some ⟨q,o,none⟩∧(∀ W',Rn B Wa W'→W'.cell? ⟨q,o+j,none⟩=some (.slice a b d))∧Kept B Wa (.slice a b d) (shA PP j):=by
 subst hn
 intro j hj
 obtain ⟨vs,h3,h4⟩:=h
 obtain ⟨a,b,d,e,h5⟩:=h4 j hj
 have h3':=h3
 rcases h3.2 with ⟨_,h0⟩|⟨g,cap,cur,e2,hB,hc,_⟩
 ·omega
 ·cases e2
  refine ⟨g,0,a,b,d,rfl,fun W' hR=>?_,h5.kept (by decide)⟩
  have:=World.ownsRow.cells (owns_only h3' hR.onl (by decide)) rfl j _ e
  rw [addr_plus] at this
  exact this
theorem intT1:GT Tryz.prog 23 3 1 8:=⟨Tryz.underlying23,by kernel_rfl⟩
/-- What a layer lays: its steps, and the number of what comes out. -/
def layS (l:Ly) (d:List Int) (N:Nat) (rest:List Int) (bf last:Int):List Sp:=(prS (parD l d) rest (parD l d).length).1++(if kindI l.1=0 then denS (decide (d.length=2)) (N+2) (N:Int) ((N+1:Nat):Int) last else if kindI l.1=1 then [spD 12 last (N:Int) 1] else if kindI l.1=2 then [spD 13 last 0 l.2.1] else if kindI l.1=3 then [spD 11 last 0 l.2.1] else [spD 2 bf last 0])
def layN (l:Ly) (d:List Int) (N:Nat):Nat:=if kindI l.1=0 then denN (decide (d.length=2)) (N+2) else if kindI l.1=1 then N+1 else N
def layR (l:Ly) (d:List Int) (rest:List Int):List Int:=(prS (parD l d) rest (parD l d).length).2
theorem layer_any (B pb N:Nat) (sts:List Sp) (rest:List Int) (hN:sts.length=N) (hfew:N≤180) (s:ByteArray) (a b:Int) (hl:LayOk (s,a,b)) (d:List Int) (hd:InOk d) (hfit:kindI s=1→d.length=2) (hsum:psz (s,a,b) d≤(rest.length:Int)) (hrl:rest.length≤1073741824) (p:Option Addr) (n c:Nat) (bf last:Int) (w:World) (hP:PlanO B w w pb sts rest) (h1:Kept B w (.slice p n c) d):
  Calls Tryz.prog 77 #[.pointer (some ⟨pb,0,none⟩),.agg #[.string s,.int .i64 a,.int .i64 b],.slice p n c,.int .i64 bf,.int .i64 last] w fun e w'=>e = .returned (.int .i64 (layN (s,a,b) d N:Int))∧PlanO B w' w' pb (sts++layS (s,a,b) d N rest bf last) (layR (s,a,b) d rest)∧Rn B w w':=by
 haveI:Nonempty World:=⟨w⟩
 obtain ⟨RN,eRN⟩:∃ R,layN (s,a,b) d N=R:=⟨_,rfl⟩
 obtain ⟨RS,eRS⟩:∃ R,layS (s,a,b) d N rest bf last=R:=⟨_,rfl⟩
 obtain ⟨RR,eRR⟩:∃ R,layR (s,a,b) d rest=R:=⟨_,rfl⟩
 rw [eRN,eRS,eRR]
 obtain ⟨PP,eP⟩:∃ PP,parD (s,a,b) d=PP:=⟨_,rfl⟩
 have hnd:d.length=n:=by
  obtain ⟨_,_,_,e,h⟩:=h1.nums.lst
  cases e
  exact h.out.1
 obtain ⟨np,enp⟩:∃ n,PP.length=n:=⟨_,rfl⟩
 have hsr:=sumP_rng hl hd
 have hsz:=sumP_psz (l:=(s,a,b)) (d:=d)
 have hsmal:=parD_smal hl hd
 have hlen:=parD_len (s,a,b) d
 rw [eP] at hsr hsz hsmal hlen
 rw [enp] at hsr hsz hsmal hlen
 have hpr:∀ i,i < np→0≤prodI (shA PP i):=fun i hi=>by
  rw [← eP,← enp] at *
  have hp:=hd.prod
  unfold parD at hi ⊢
  rcases layOk_cases hl with ⟨-,k,g1,g2⟩|⟨-,k,g1,g2⟩|⟨-,k,g1,g2⟩|⟨-,k,g1,g2⟩|⟨-,k,g1,g2⟩ <;> simp only [] at k g1 g2 hi ⊢ <;> rw [k] at hi ⊢ <;> simp at hi
  ·have:=mprod_rng g1 hp
   rcases (show i=0∨i=1 by omega) with rfl|rfl <;> simp [shA,prodI_two,prodI_one] <;> omega
  ·subst hi
   have h0:0≤d.getD 0 0:=by rcases hd with ⟨x,rfl,h⟩|⟨x,y,rfl,hx,hy⟩ <;> simp <;> omega
   simp only [if_neg (show ¬ (1:Nat)=0 by omega),if_true]
   show 0≤prodI [a,d.getD 0 0,b]
   rw [prodI_three]
   exact Int.mul_nonneg (Int.mul_nonneg (by omega) h0) (by omega)
 have hmono:∀ i,i≤np→sumP PP i≤(rest.length:Int):=by
  have key:∀ k i,i+k=np→sumP PP i≤sumP PP np:=by
   intro k
   induction k with
   | zero=>intro i hi;rw [show i=np by omega];exact Int.le_refl _
   | succ k ih=>
    intro i hi
    have h5:=ih (i+1) (by omega)
    have h6:=hpr i (by omega)
    simp only [sumP] at h5
    omega
  intro i hi
  have:=key (np - i) i (by omega)
  omega
 have hprl:∀ j,j≤np→((prS PP rest j).2.length:Int)=(rest.length:Int) - sumP PP j∧(prS PP rest j).1.length=j:=fun j hj=>prS_len j (fun i hi=>hpr i (by omega)) (fun i hi=>hmono i (by omega))
 have HM:Hid ((∀ j,j≤np→(prS PP rest j).2.length≤rest.length∧(prS PP rest j).1.length=j)∧(∀ j,j < np→(prodI (shA PP j)).toNat≤(prS PP rest j).2.length∧prodI (shA PP j)=((prodI (shA PP j)).toNat:Int)∧Smal (shA PP j))):=by
  refine ⟨fun j hj=>?_,fun j hj=>?_⟩
  ·have:=hprl j hj
   have h5:=hsr j (by omega)
   exact ⟨by omega,this.2⟩
  ·have:=hprl j (by omega)
   have h5:=hpr j hj
   have h6:=hmono (j+1) (by omega)
   simp only [sumP] at h6
   exact ⟨by omega,by omega,hsmal j hj⟩
 have hkc:=layOk_cases hl
 have cp:Hid (∀ W,Below w.heap.size w W→Calls Tryz.prog 71 #[.agg #[.string s,.int .i64 a,.int .i64 b],.slice p n c] W fun e w'=>∃ v',e = .returned v'∧ParR PP v' w'∧Below W.heap.size W w'):=fun W hW=>by
  rw [← eP]
  exact paramsOf_any s a b d hl hd hfit p n c W (h1.nums.up hW)
 have HR:Hid (layN (s,a,b) d N=RN∧layS (s,a,b) d N rest bf last=RS∧layR (s,a,b) d rest=RR∧parD (s,a,b) d=PP∧PP.length=np∧d.length=n∧sts.length=N∧np≤2∧rest.length≤1073741824):=⟨eRN,eRS,eRR,eP,enp,hnd,hN,hlen,hrl⟩
 have HP:Hid (PlanO B w w pb sts rest):=hP
 obtain ⟨t0,t1,t2,t3,-⟩:=kts s
 clear eRN eRS eRR eP enp hnd hsr hsz hsmal hpr hmono hprl hP h1 hsum hrl hfit hd hl hN
 go_enter Tryz.func77,Tryz.ntmps77
 go_wp2_with fail
 generalize hW0:World.alloc _ _=W0
 have HB0:Hid (Below w.heap.size w W0):=by rw [← hW0];exact up_alloc w _
 have HX0:Hid (W0.heap[w.heap.size]?=some (.cells #[.string s,.int .i64 a,.int .i64 b] 73 (0,0))):=by
  show _=_
  rw [← hW0]
  exact Array.getElem?_push_size
 clear hW0
 refine (cp.out W0 HB0.out).mono ?_
 rintro e Wa ⟨v1,rfl,hp1,hB1⟩
 obtain ⟨p16,c16,rfl,-,ho16⟩:=hp1
 have hBa:Below w.heap.size w Wa:=bstep HB0.out hB1
 rw [HR.out.2.2.2.2.1] at ho16 ⊢
 have HPa:Hid (PlanO B Wa Wa pb sts rest∧B≤Wa.heap.size∧Rn B w Wa):=⟨(HP.out.up hBa).on,Nat.le_trans HP.out.size hBa.size,Rn.of HP.out.size hBa⟩
 have HD:Hid (∀ j,j < np→∃ q o a b d,p16=some ⟨q,o,none⟩∧(∀ W',Rn B Wa W'→W'.cell? ⟨q,o+j,none⟩=some (.slice a b d))∧Kept B Wa (.slice a b d) (shA PP j)):=OwnS.dims ho16 HR.out.2.2.2.2.1
 have HXa:Hid (Wa.heap[w.heap.size]?=some (.cells #[.string s,.int .i64 a,.int .i64 b] 73 (0,0))):=(hB1.block _ (heap_lt HX0.out)).trans HX0.out
 have hnp2:np≤2:=hlen
 clear ho16 hB1 hBa cp HX0 HB0
 go_wp2_with fail
 go_loopg [11,18] np (fun gg u v wr=>∃ (j:Nat),j≤np∧gg=np - j∧v = .int .i64 (j:Int)∧Hid (OwnK .i64 3 wr Wa.heap.size u (nodL N j))∧Hid (PlanO B Wa wr pb (sts++(prS PP rest j).1) (prS PP rest j).2))
 case atStart=>exact ⟨0,by omega,by omega,rfl,OwnK.nil _ _ _ _,by show PlanO _ _ _ _ _ _;simpa [prS] using HPa.out.1⟩
 case round=>
  obtain ⟨j,hj,hg,rfl,HO,HJ⟩:=hrel
  obtain ⟨pv,nv,cv,rfl,HCv⟩:=HO.out.nums.lst
  have hnv:nodL N j=nodL N j:=rfl
  have hnvl:=HCv.out.1
  simp only [nodL,List.length_map,List.length_range] at hnvl
  subst hnvl
  clear hnv
  by_cases hjn:j < np
  ·have hj':(j:Int) < (np:Int):=by omega
   obtain ⟨q,o,a3,b3,d3,rfl,hcell,hk3⟩:=HD.out j hjn
   have c0:=hcell wr HJ.out.rn
   obtain ⟨m1,m2,m3⟩:=HM.out.2 j hjn
   have hrest:=HM.out.1 j (by omega)
   have hNl:(sts++(prS PP rest j).1).length=N+j:=by rw [List.length_append,hrest.2,HR.out.2.2.2.2.2.2.1]
   have cq:=param_any B pb (sts++(prS PP rest j).1) (prS PP rest j).2 (by rw [hNl];omega) (shA PP j) m3 _ m2 m1 (by have:=HR.out.2.2.2.2.2.2.2.2;omega) a3 b3 d3 Wa wr HJ.out hk3
   rw [hNl] at cq
   clear m1 m2 m3 hk3 hcell hrest hNl HCv
   go_wp2_with fail
   refine cq.mono ?_
   rintro e w1 ⟨rfl,hP1,hR1⟩
   have HO1:Hid (OwnK .i64 3 w1 Wa.heap.size (.slice pv j cv) (nodL N j)):=HO.out.only hR1.onl (by decide)
   have HJ1:Hid (PlanO B Wa w1 pb (sts++(prS PP rest (j+1)).1) (prS PP rest (j+1)).2):=by
    have:=hP1
    rw [List.append_assoc] at this
    exact this
   have HZ1:Hid (Wa.heap.size≤w1.heap.size):=HJ1.out.rn.size
   have hbl:Below w1.heap.size w1 (w1.alloc (.cells #[.int .i64 ((N+j:Nat):Int)] 3)):=up_alloc w1 _
   have A1:Hid ((w1.alloc (.cells #[.int .i64 ((N+j:Nat):Int)] 3)).ownsRow Wa.heap.size 3 1 (.slice pv j cv) j (vals .i64 (nodL N j))):=by
    have:=HO1.out.up hbl
    unfold OwnK at this
    rw [show (nodL N j).length=j by simp [nodL]] at this
    exact this
   have A2:Hid ((w1.alloc (.cells #[.int .i64 ((N+j:Nat):Int)] 3)).heap[w1.heap.size]?=some (.cells [Value.int .i64 ((N+j:Nat):Int)].toArray 3 (0,0))):=Array.getElem?_push_size
   have A3:Hid (∀ y∈[Value.int .i64 ((N+j:Nat):Int)],y.oneCell'=true):=fun y hy=>by simp at hy;subst hy;rfl
   have A4:Hid (Wa.heap.size≤(w1.alloc (.cells #[.int .i64 ((N+j:Nat):Int)] 3)).heap.size):=Nat.le_trans HZ1.out hbl.size
   clear cq hP1 hR1 HO HJ c0 hbl
   go_wp2_with (at_builtin;refine wpList_appG intT1 (by decide) (by decide) rfl (.tmp 22) (.tmp 26) rfl Wa.heap.size _ _ _ rfl A1.out _ [.int .i64 ((N+j:Nat):Int)] rfl A2.out rfl A3.out (by omega) A4.out ?_;intro v0 w0 H0 O0 B0)
   have HF:Hid (OwnK .i64 3 w0 Wa.heap.size v0 (nodL N (j+1))):=by
    show OwnK _ _ _ _ _ _
    unfold OwnK
    rw [nodL_succ,show (nodL N j++[((N+j:Nat):Int)]).length=j+1 by simp [nodL]]
    have:=H0.out
    unfold vals at *
    rw [List.map_append]
    exact this
   have HF2:Hid (PlanO B Wa w0 pb (sts++(prS PP rest (j+1)).1) (prS PP rest (j+1)).2):=(HJ1.out.up (up_alloc w1 _)).int HPa.out.2.1 O0.out (B0.out _ (Below.refl _ _))
   clear A1 A2 A3 A4 H0 O0 B0 HO1 HJ1
   go_wp2
   go_roundg (np - (j+1))
   case measure=>omega
   case rel=>exact ⟨j+1,by omega,rfl,by first|rfl|simp,HF,HF2⟩
  ·obtain rfl:j=np:=by omega
   have hX:=HJ.out.rn.block HXa.out (by decide)
   obtain ⟨⟨y0,_⟩,⟨y1,_⟩,⟨y2,_⟩⟩:=box_3 hX
   have hNN:(sts++(prS PP rest j).1).length=N+j:=by rw [List.length_append,(HM.out.1 j (Nat.le_refl _)).2,HR.out.2.2.2.2.2.2.1]
   have hjl:(parD (s,a,b) d).length=j:=by rw [HR.out.2.2.2.1];exact HR.out.2.2.2.2.1
   have hcv:=HCv.out.2
   clear hX hnp2 hlen
   rcases hkc with ⟨-,k,-⟩|⟨-,k,-⟩|⟨-,k,-⟩|⟨-,k,-⟩|⟨-,k,-⟩ <;> (try simp only [] at k) <;> rw [k] at t0 t1 t2 t3 <;> simp [parD,k] at hjl
   ·replace t0:=t0.trans (show decide ((0:Nat)=0)=true from rfl)
    subst hjl
    obtain ⟨q,o,rfl,c0⟩:=hcv 0 (by omega)
    obtain ⟨q',o',e',c1⟩:=hcv 1 (by omega)
    cases e'
    replace c0:wr.cell? ⟨q,o,none⟩=some (.int .i64 (N:Int)):=c0
    replace c1:wr.cell? ⟨q,o+1,none⟩=some (.int .i64 ((N+1:Nat):Int)):=c1
    have hz1:=cell_size c0
    clear hcv HCv HO HD t1 t2 t3
    go_wp2
    refine rel [] 9 73 (by kernel_rfl) rfl rfl (by kernel_rfl) (by rfl) ?_ ?_
    ·intro e he;simp at he
    apply Exists.intro
    refine ⟨fun x=>?_,?_,?_⟩
    ·simp only [List.take_succ_cons,List.take_zero]
     iterate 9
      refine relQuiet rfl rfl ?_
      apply Exists.intro
      refine ⟨fun F hF hf K hK=>?_,?_⟩
      ·have hFc:=hF.cell
       have hFf:=hF.frozen
       go_big_quiet_op
       first|exact hK|(apply Exists.intro;refine ⟨fun _=>?_,?_⟩;(· fail);exact hK)
      (try simp only [Act.put,List.setIfInBounds_toArray,List.set_cons_zero,List.set_cons_succ])
     refine relEnd ?_
     exact rfl
    ·exact fun x=>rfl
    ·intro w9 xs hB9 hf
     simp only [List.drop_succ_cons,List.drop_zero]
     have HJ9:Hid (PlanO B Wa w9 pb (sts++(prS PP rest 2).1) (prS PP rest 2).2):=HJ.out.up hB9
     clear hf hB9 c0 c1
     go_wp2_with fail
     refine (dense_any B pb (N+2) _ _ hNN (by omega) (N:Int) ((N+1:Nat):Int) last p n c Wa w9 HJ9.out).mono ?_
     rintro e w2 ⟨rfl,hP2,hR2⟩
     have HF:Hid (PlanO B w2 w2 pb (sts++RS) RR∧Rn B w w2):=by
      refine ⟨?_,HPa.out.2.2.trans hP2.rn⟩
      have h3:=hP2.on
      rw [List.append_assoc] at h3
      rw [← HR.out.2.1,← HR.out.2.2.1]
      unfold layS layR
      rw [HR.out.2.2.2.1,HR.out.2.2.2.2.1,HR.out.2.2.2.2.2.1]
      simp only [k,if_true]
      exact h3
     have eN:RN=denN (decide (n=2)) (N+2):=by
      rw [← HR.out.1]
      unfold layN
      rw [HR.out.2.2.2.2.2.1]
      simp only [k,if_true]
     rw [← eN]
     clear hP2 hR2 HR
     go_wp2
     go_ret
     exact ⟨by first|rfl|simp [eN],HF.out⟩
   ·replace t0:=t0.trans (show decide ((1:Nat)=0)=false from rfl)
    replace t1:=t1.trans (show decide ((1:Nat)=1)=true from rfl)
    subst hjl
    obtain ⟨q,o,rfl,c0⟩:=hcv 0 (by omega)
    replace c0:wr.cell? ⟨q,o,none⟩=some (.int .i64 (N:Int)):=c0
    have hz1:=cell_size c0
    clear hcv HCv HO HD t2 t3
    go_wp2_with fail
    refine (padd_do B pb (N+1) _ _ hNN (by omega) 12 last (N:Int) 1 Wa wr HJ.out).mono ?_
    rintro e w2 ⟨rfl,H2⟩
    have HF:Hid (PlanO B w2 w2 pb (sts++RS) RR∧Rn B w w2):=by
     refine ⟨?_,HPa.out.2.2.trans H2.out.1.rn⟩
     have h3:=H2.out.1.on
     rw [List.append_assoc] at h3
     rw [← HR.out.2.1,← HR.out.2.2.1]
     unfold layS layR
     rw [HR.out.2.2.2.1,HR.out.2.2.2.2.1]
     simp only [k,if_true,if_false,if_neg (show ¬ (1:Nat)=0 by omega),if_neg (show ¬ (2:Nat)=0 by omega),if_neg (show ¬ (2:Nat)=1 by omega),if_neg (show ¬ (3:Nat)=0 by omega),if_neg (show ¬ (3:Nat)=1 by omega),if_neg (show ¬ (3:Nat)=2 by omega),if_neg (show ¬ (4:Nat)=0 by omega),if_neg (show ¬ (4:Nat)=1 by omega),if_neg (show ¬ (4:Nat)=2 by omega),if_neg (show ¬ (4:Nat)=3 by omega)]
     exact h3
    have eN:RN=N+1:=by
     rw [← HR.out.1]
     unfold layN
     simp only [k,if_true,if_false,if_neg (show ¬ (1:Nat)=0 by omega),if_neg (show ¬ (2:Nat)=0 by omega),if_neg (show ¬ (2:Nat)=1 by omega),if_neg (show ¬ (3:Nat)=0 by omega),if_neg (show ¬ (3:Nat)=1 by omega),if_neg (show ¬ (3:Nat)=2 by omega),if_neg (show ¬ (4:Nat)=0 by omega),if_neg (show ¬ (4:Nat)=1 by omega),if_neg (show ¬ (4:Nat)=2 by omega),if_neg (show ¬ (4:Nat)=3 by omega)]
     (try rfl)
    subst eN
    clear H2 HR
    go_wp2
    go_ret
    exact ⟨by first|rfl|simp,HF.out⟩
   ·replace t0:=t0.trans (show decide ((2:Nat)=0)=false from rfl)
    replace t1:=t1.trans (show decide ((2:Nat)=1)=false from rfl)
    replace t2:=t2.trans (show decide ((2:Nat)=2)=true from rfl)
    subst hjl
    clear hcv HCv HO HD
    go_wp2_with fail
    refine (padd_do B pb (N+0) _ _ hNN (by omega) 13 last 0 a Wa wr HJ.out).mono ?_
    rintro e w2 ⟨rfl,H2⟩
    have HF:Hid (PlanO B w2 w2 pb (sts++RS) RR∧Rn B w w2):=by
     refine ⟨?_,HPa.out.2.2.trans H2.out.1.rn⟩
     have h3:=H2.out.1.on
     rw [List.append_assoc] at h3
     rw [← HR.out.2.1,← HR.out.2.2.1]
     unfold layS layR
     rw [HR.out.2.2.2.1,HR.out.2.2.2.2.1]
     simp only [k,if_true,if_false,if_neg (show ¬ (1:Nat)=0 by omega),if_neg (show ¬ (2:Nat)=0 by omega),if_neg (show ¬ (2:Nat)=1 by omega),if_neg (show ¬ (3:Nat)=0 by omega),if_neg (show ¬ (3:Nat)=1 by omega),if_neg (show ¬ (3:Nat)=2 by omega),if_neg (show ¬ (4:Nat)=0 by omega),if_neg (show ¬ (4:Nat)=1 by omega),if_neg (show ¬ (4:Nat)=2 by omega),if_neg (show ¬ (4:Nat)=3 by omega)]
     exact h3
    have eN:RN=N+0:=by
     rw [← HR.out.1]
     unfold layN
     simp only [k,if_true,if_false,if_neg (show ¬ (1:Nat)=0 by omega),if_neg (show ¬ (2:Nat)=0 by omega),if_neg (show ¬ (2:Nat)=1 by omega),if_neg (show ¬ (3:Nat)=0 by omega),if_neg (show ¬ (3:Nat)=1 by omega),if_neg (show ¬ (3:Nat)=2 by omega),if_neg (show ¬ (4:Nat)=0 by omega),if_neg (show ¬ (4:Nat)=1 by omega),if_neg (show ¬ (4:Nat)=2 by omega),if_neg (show ¬ (4:Nat)=3 by omega)]
     (try rfl)
    subst eN
    clear H2 HR
    go_wp2
    go_ret
    exact ⟨by first|rfl|simp,HF.out⟩
   ·replace t0:=t0.trans (show decide ((3:Nat)=0)=false from rfl)
    replace t1:=t1.trans (show decide ((3:Nat)=1)=false from rfl)
    replace t2:=t2.trans (show decide ((3:Nat)=2)=false from rfl)
    replace t3:=t3.trans (show decide ((3:Nat)=3)=true from rfl)
    subst hjl
    clear hcv HCv HO HD
    go_wp2_with fail
    refine (padd_do B pb (N+0) _ _ hNN (by omega) 11 last 0 a Wa wr HJ.out).mono ?_
    rintro e w2 ⟨rfl,H2⟩
    have HF:Hid (PlanO B w2 w2 pb (sts++RS) RR∧Rn B w w2):=by
     refine ⟨?_,HPa.out.2.2.trans H2.out.1.rn⟩
     have h3:=H2.out.1.on
     rw [List.append_assoc] at h3
     rw [← HR.out.2.1,← HR.out.2.2.1]
     unfold layS layR
     rw [HR.out.2.2.2.1,HR.out.2.2.2.2.1]
     simp only [k,if_true,if_false,if_neg (show ¬ (1:Nat)=0 by omega),if_neg (show ¬ (2:Nat)=0 by omega),if_neg (show ¬ (2:Nat)=1 by omega),if_neg (show ¬ (3:Nat)=0 by omega),if_neg (show ¬ (3:Nat)=1 by omega),if_neg (show ¬ (3:Nat)=2 by omega),if_neg (show ¬ (4:Nat)=0 by omega),if_neg (show ¬ (4:Nat)=1 by omega),if_neg (show ¬ (4:Nat)=2 by omega),if_neg (show ¬ (4:Nat)=3 by omega)]
     exact h3
    have eN:RN=N+0:=by
     rw [← HR.out.1]
     unfold layN
     simp only [k,if_true,if_false,if_neg (show ¬ (1:Nat)=0 by omega),if_neg (show ¬ (2:Nat)=0 by omega),if_neg (show ¬ (2:Nat)=1 by omega),if_neg (show ¬ (3:Nat)=0 by omega),if_neg (show ¬ (3:Nat)=1 by omega),if_neg (show ¬ (3:Nat)=2 by omega),if_neg (show ¬ (4:Nat)=0 by omega),if_neg (show ¬ (4:Nat)=1 by omega),if_neg (show ¬ (4:Nat)=2 by omega),if_neg (show ¬ (4:Nat)=3 by omega)]
     (try rfl)
    subst eN
    clear H2 HR
    go_wp2
    go_ret
    exact ⟨by first|rfl|simp,HF.out⟩
   ·replace t0:=t0.trans (show decide ((4:Nat)=0)=false from rfl)
    replace t1:=t1.trans (show decide ((4:Nat)=1)=false from rfl)
    replace t2:=t2.trans (show decide ((4:Nat)=2)=false from rfl)
    replace t3:=t3.trans (show decide ((4:Nat)=3)=false from rfl)
    subst hjl
    clear hcv HCv HO HD
    go_wp2_with fail
    refine (padd_do B pb (N+0) _ _ hNN (by omega) 2 bf last 0 Wa wr HJ.out).mono ?_
    rintro e w2 ⟨rfl,H2⟩
    have HF:Hid (PlanO B w2 w2 pb (sts++RS) RR∧Rn B w w2):=by
     refine ⟨?_,HPa.out.2.2.trans H2.out.1.rn⟩
     have h3:=H2.out.1.on
     rw [List.append_assoc] at h3
     rw [← HR.out.2.1,← HR.out.2.2.1]
     unfold layS layR
     rw [HR.out.2.2.2.1,HR.out.2.2.2.2.1]
     simp only [k,if_true,if_false,if_neg (show ¬ (1:Nat)=0 by omega),if_neg (show ¬ (2:Nat)=0 by omega),if_neg (show ¬ (2:Nat)=1 by omega),if_neg (show ¬ (3:Nat)=0 by omega),if_neg (show ¬ (3:Nat)=1 by omega),if_neg (show ¬ (3:Nat)=2 by omega),if_neg (show ¬ (4:Nat)=0 by omega),if_neg (show ¬ (4:Nat)=1 by omega),if_neg (show ¬ (4:Nat)=2 by omega),if_neg (show ¬ (4:Nat)=3 by omega)]
     exact h3
    have eN:RN=N+0:=by
     rw [← HR.out.1]
     unfold layN
     simp only [k,if_true,if_false,if_neg (show ¬ (1:Nat)=0 by omega),if_neg (show ¬ (2:Nat)=0 by omega),if_neg (show ¬ (2:Nat)=1 by omega),if_neg (show ¬ (3:Nat)=0 by omega),if_neg (show ¬ (3:Nat)=1 by omega),if_neg (show ¬ (3:Nat)=2 by omega),if_neg (show ¬ (4:Nat)=0 by omega),if_neg (show ¬ (4:Nat)=1 by omega),if_neg (show ¬ (4:Nat)=2 by omega),if_neg (show ¬ (4:Nat)=3 by omega)]
     (try rfl)
    subst eN
    clear H2 HR
    go_wp2
    go_ret
    exact ⟨by first|rfl|simp,HF.out⟩
end Go.Proofs.YtiampagapgjedaaGreatDoor.Wd
