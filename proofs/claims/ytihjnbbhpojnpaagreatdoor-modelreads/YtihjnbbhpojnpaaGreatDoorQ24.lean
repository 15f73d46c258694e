/- The code's Do, whatever it is asked. · T -/
import Derived.Test.YtihjnbbhpojnpaaGreatDoorQ23
set_option linter.unusedVariables false
set_option linter.unusedSimpArgs false
set_option maxHeartbeats 16000000
set_option maxRecDepth 16000
namespace Go.Proofs.YtihjnbbhpojnpaaGreatDoor.Wd
open Go.RowKit Fx
theorem rk_k {op:Int} (h:¬ byP op) (D X D' X':List Int) (k:Int):rkE op D X D' X' k=rkE op D X D' X' 0∧rkD op D X D' X' k=rkD op D X D' X' 0∧rkV op D X D' X' k=rkV op D X D' X' 0:=by
 have n5:op≠5:=fun e=>h (.inl e)
 have n8:op≠8:=fun e=>h (.inr (.inl e))
 have n11:op≠11:=fun e=>h (.inr (.inr (.inl e)))
 have n12:op≠12:=fun e=>h (.inr (.inr (.inr (.inl e))))
 have n13:op≠13:=fun e=>h (.inr (.inr (.inr (.inr e))))
 unfold rkE rkD rkV
 simp only [if_neg n5,if_neg n8,if_neg n11,if_neg n12,if_neg n13]
 exact ⟨trivial,trivial,trivial⟩
theorem cdo_full (B tb:Nat) (ns:List Nd) (hG:NodesG ns) (op a b k:Int) (hk:InR op∧InR a∧InR b∧InR k) (w:World) (hT:TapC w B tb ns) (hfull:512≤ns.length):
  Calls Tryz.prog 65 #[.pointer (some ⟨tb,0,none⟩),.int .i64 op,.int .i64 a,.int .i64 b,.int .i64 k] w fun e w'=>e = .returned (.tuple #[.int .i64 (doR ns op a b k),.int .i64 (doE ns op a b k)])∧TapC w' B tb (doN ns op a b k)∧Below B w w'∧Only SC w w'∧Spar2 tb w w':=by
 have hTT:Hid (TapC w B tb ns):=hT
 have hf:decide (512≤ns.length)=true:=decide_eq_true hfull
 have e1:doE ns op a b k=2:=if_pos hfull
 have e2:doR ns op a b k=0:=if_neg fun h=>by have:=h.1.1;omega
 have e3:doN ns op a b k=ns:=if_neg fun h=>by have:=h.1.1;omega
 rw [e1,e2,e3]
 clear e1 e2 e3 hfull hT hk
 go_enter Tryz.func65,Tryz.ntmps65
 go_wp2_with fail
 refine (cfull_any B tb ns true hf w hTT.out).mono ?_
 rintro e w9 ⟨rfl,ew9⟩
 have ew:=ew9.symm
 subst ew
 clear ew9
 clear hf
 go_wp2
 exact bodyPost_ret (v:=.tuple #[.int .i64 0,.int .i64 2]) (by simp [results,Tryz.results65,go_sem]) rfl ⟨rfl,hTT.out,Below.refl _ _,Only.refl _ _,Spar2.of (Below.refl _ _)⟩
theorem cdo_bad (B tb:Nat) (ns:List Nd) (hG:NodesG ns) (op a b k:Int) (hk:InR op∧InR a∧InR b∧InR k) (w:World) (hT:TapC w B tb ns) (hroom:ns.length < 512) (hno:¬ ((0≤a∧a < (ns.length:Int))∧(twoP op→0≤b∧b < (ns.length:Int)))):
  Calls Tryz.prog 65 #[.pointer (some ⟨tb,0,none⟩),.int .i64 op,.int .i64 a,.int .i64 b,.int .i64 k] w fun e w'=>e = .returned (.tuple #[.int .i64 (doR ns op a b k),.int .i64 (doE ns op a b k)])∧TapC w' B tb (doN ns op a b k)∧Below B w w'∧Only SC w w'∧Spar2 tb w w':=by
 have hTT:Hid (TapC w B tb ns):=hT
 have hf:decide (512≤ns.length)=false:=decide_eq_false (by omega)
 have ho:¬ okD ns op a b:=fun h=>hno h.2
 have e1:doE ns op a b k=1:=(if_neg (by omega)).trans (if_neg ho)
 have e2:doR ns op a b k=0:=if_neg fun h=>ho h.1.2
 have e3:doN ns op a b k=ns:=if_neg fun h=>ho h.1.2
 rw [e1,e2,e3]
 clear e1 e2 e3 hT hk ho hroom
 by_cases ha:0≤a∧a < (ns.length:Int)
 ·have h2:twoP op∧¬ (0≤b∧b < (ns.length:Int)):=by
   by_cases h2:twoP op
   ·exact ⟨h2,fun hb=>hno ⟨ha,fun _=>hb⟩⟩
   ·exact absurd ⟨ha,fun h=>absurd h h2⟩ hno
  have hq:decide (twoP op)=true:=decide_eq_true h2.1
  have hb:decide (0≤b∧b < (ns.length:Int))=false:=decide_eq_false h2.2
  have ha':decide (0≤a∧a < (ns.length:Int))=true:=decide_eq_true ha
  clear h2 ha hno
  go_enter Tryz.func65,Tryz.ntmps65
  go_wp2_with fail
  refine (cfull_any B tb ns false hf w hTT.out).mono ?_
  rintro e w9 ⟨rfl,ew9⟩
  have ew:=ew9.symm
  subst ew
  clear ew9
  go_wp2_with fail
  refine (chas_any B tb ns a true ha' w hTT.out).mono ?_
  rintro e w9 ⟨rfl,ew9⟩
  have ew:=ew9.symm
  subst ew
  clear ew9
  go_wp2_with fail
  refine (chasb_any op true hq w).mono ?_
  rintro e w9 ⟨rfl,ew9⟩
  have ew:=ew9.symm
  subst ew
  clear ew9
  go_wp2_with fail
  refine (chas_any B tb ns b false hb w hTT.out).mono ?_
  rintro e w9 ⟨rfl,ew9⟩
  have ew:=ew9.symm
  subst ew
  clear ew9
  clear hf hq hb ha'
  go_wp2
  exact bodyPost_ret (v:=.tuple #[.int .i64 0,.int .i64 1]) (by simp [results,Tryz.results65,go_sem]) rfl ⟨rfl,hTT.out,Below.refl _ _,Only.refl _ _,Spar2.of (Below.refl _ _)⟩
 ·have ha':decide (0≤a∧a < (ns.length:Int))=false:=decide_eq_false ha
  clear ha hno
  go_enter Tryz.func65,Tryz.ntmps65
  go_wp2_with fail
  refine (cfull_any B tb ns false hf w hTT.out).mono ?_
  rintro e w9 ⟨rfl,ew9⟩
  have ew:=ew9.symm
  subst ew
  clear ew9
  go_wp2_with fail
  refine (chas_any B tb ns a false ha' w hTT.out).mono ?_
  rintro e w9 ⟨rfl,ew9⟩
  have ew:=ew9.symm
  subst ew
  clear ew9
  clear hf ha'
  go_wp2
  exact bodyPost_ret (v:=.tuple #[.int .i64 0,.int .i64 1]) (by simp [results,Tryz.results65,go_sem]) rfl ⟨rfl,hTT.out,Below.refl _ _,Only.refl _ _,Spar2.of (Below.refl _ _)⟩
theorem cdo_sp (B tb:Nat) (ns:List Nd) (hG:NodesG ns) (op a b k:Int) (hRk:RkC op) (hk:InR op∧InR a∧InR b∧InR k) (w:World) (hT:TapC w B tb ns) (hTz:Hid (Tz w)):
  Calls Tryz.prog 65 #[.pointer (some ⟨tb,0,none⟩),.int .i64 op,.int .i64 a,.int .i64 b,.int .i64 k] w fun e w'=>e = .returned (.tuple #[.int .i64 (doR ns op a b k),.int .i64 (doE ns op a b k)])∧TapC w' B tb (doN ns op a b k)∧Below B w w'∧Only SC w w'∧Spar2 tb w w':=by
 by_cases hf:512≤ns.length
 ·exact cdo_full B tb ns hG op a b k hk w hT hf
 by_cases hno:(0≤a∧a < (ns.length:Int))∧(twoP op→0≤b∧b < (ns.length:Int))
 case neg=>exact cdo_bad B tb ns hG op a b k hk w hT (by omega) hno
 obtain ⟨ai,rfl⟩:∃ i:Nat,a=i:=⟨a.toNat,by have:=hno.1;omega⟩
 have hai:ai < ns.length:=by have:=hno.1;omega
 obtain ⟨nda,hnda⟩:∃ nd,ns[ai]?=some nd:=⟨_,List.getElem?_eq_getElem hai⟩
 have hga:TnsG nda.D nda.X:=hG nda (nd_mem hnda)
 have ena:=nd_at hnda
 obtain ⟨E,eE⟩:∃ E,rqE op nda.D nda.X (dD ns op b) (dX ns op b) k=E:=⟨_,rfl⟩
 obtain ⟨D,eD⟩:∃ E,rqD op nda.D nda.X (dD ns op b) (dX ns op b) k=E:=⟨_,rfl⟩
 obtain ⟨V,eV⟩:∃ E,rqV op nda.D nda.X (dD ns op b) (dX ns op b) k=E:=⟨_,rfl⟩
 have hkk:rkE op nda.D nda.X (dD ns op b) (dX ns op b) k=rkE op nda.D nda.X (dD ns op b) (dX ns op b) (dK op k)∧rkD op nda.D nda.X (dD ns op b) (dX ns op b) k=rkD op nda.D nda.X (dD ns op b) (dX ns op b) (dK op k)∧rkV op nda.D nda.X (dD ns op b) (dX ns op b) k=rkV op nda.D nda.X (dD ns op b) (dX ns op b) (dK op k):=by
  unfold dK
  by_cases h:byP op
  ·rw [if_pos h];exact ⟨rfl,rfl,rfl⟩
  ·rw [if_neg h];exact rk_k h _ _ _ _ _
 have hE1:doE ns op (ai:Int) b k=E:=by
  refine (if_neg (by omega)).trans ?_
  rw [← eE]
  unfold rqE
  by_cases ho:2≤op∧op≤14
  ·rw [if_pos ho,if_pos ⟨ho,hno⟩]
   unfold dE
   rw [ena,hkk.1]
  ·rw [if_neg ho,if_neg fun h=>ho h.1]
 have hEok:E=0→2≤op∧op≤14:=fun h=>by
  by_cases ho:2≤op∧op≤14
  ·exact ho
  ·rw [← eE] at h
   unfold rqE at h
   rw [if_neg ho] at h
   cases h
 rw [hE1]
 obtain ⟨RR,eR⟩:∃ R,doR ns op (ai:Int) b k=R:=⟨_,rfl⟩
 obtain ⟨NS,eS⟩:∃ R,doN ns op (ai:Int) b k=R:=⟨_,rfl⟩
 rw [eR,eS]
 have HG0:(E=0→RR=(ns.length:Int)∧NS=ns++[⟨op,(ai:Int),dB op b,dK op k,D,V⟩])∧(E≠0→RR=0∧NS=ns):=by
  rw [← eR,← eS]
  refine ⟨fun h=>?_,fun h=>?_⟩
  ·have ho:=hEok h
   have hP:doP ns op (ai:Int) b k:=⟨⟨by omega,ho,hno⟩,by rw [← hE1] at h;unfold doE at h;rw [if_neg hf,if_pos ⟨ho,hno⟩] at h;exact h⟩
   refine ⟨if_pos hP,(if_pos hP).trans ?_⟩
   unfold dN
   rw [ena,← hkk.2.1,← hkk.2.2,← eD,← eV]
   unfold rqD rqV
   rw [if_pos ho,if_pos ho]
  ·have hP:¬ doP ns op (ai:Int) b k:=fun h'=>h (by
    have h2:=hE1
    unfold doE at h2
    rw [if_neg hf,if_pos h'.1.2] at h2
    rw [← h2]
    exact h'.2)
   exact ⟨if_neg hP,if_neg hP⟩
 have hroom:ns.length < 512:=by omega
 have hgb:RI (dD ns op b)∧RI (dX ns op b):=by
  unfold dD dX
  by_cases h2:twoP op
  ·rw [if_pos h2,if_pos h2]
   exact (hG.at (hno.2 h2).1 (hno.2 h2).2).2
  ·rw [if_neg h2,if_neg h2]
   exact ⟨fun y hy=>by simp at hy,fun y hy=>by simp at hy⟩
 refine cdo_ok B tb ns op ai b k nda hnda (dD ns op b) (dX ns op b) (dB op b) (dK op k) ?_ ?_ hroom E D V RR NS HG0 w hT ?_
 ·by_cases h2:twoP op
  ·have hb:=hno.2 h2
   obtain ⟨bi,rfl⟩:∃ i:Nat,b=i:=⟨b.toNat,by omega⟩
   obtain ⟨ndb,hndb⟩:∃ nd,ns[bi]?=some nd:=⟨_,List.getElem?_eq_getElem (by omega)⟩
   have enb:=nd_at hndb
   exact .inl ⟨h2,if_pos h2,bi,ndb,rfl,hndb,(if_pos h2).trans (by rw [enb]),(if_pos h2).trans (by rw [enb])⟩
  ·exact .inr ⟨h2,if_neg h2,if_neg h2,if_neg h2⟩
 ·by_cases h3:byP op
  ·exact .inl ⟨h3,if_pos h3⟩
  ·exact .inr ⟨h3,if_neg h3⟩
 intro W pA qA pB qB nA cA mA eA nB cB mB eB hW g1 g2 g3 g4 g5
 rw [← eE,← eD,← eV]
 exact hRk pA qA pB qB nA cA mA eA nB cB mB eB _ _ _ _ k hk.2.2.2 hga hgb.1 hgb.2 g3 W (Hid.up_tz hTz hW) g1 g2 g4 g5
theorem clen_any (B tb:Nat) (ns:List Nd) (w:World) (hT:TapC w B tb ns):Calls Tryz.prog 27 #[.pointer (some ⟨tb,0,none⟩)] w fun e w'=>e = .returned (.int .i64 (ns.length:Int))∧w'=w:=by
 have hTT:Hid (TapC w B tb ns):=hT
 obtain ⟨pL,cL,xs0,hv,ho,hn0,hnc⟩:=Tap.head hT
 obtain ⟨N,eN⟩:∃ N,ns.length=N:=⟨_,rfl⟩
 rw [eN] at hv ho hnc
 have hcell:=(head_cell hv).1
 have hz:=heap_lt hv
 rw [eN]
 clear hT hTT hv ho hn0 hnc eN
 go_enter Tryz.func27,Tryz.ntmps27
 go_wp2
 go_ret
 exact ⟨rfl,rfl⟩
/-- What one step makes of the nodes: an error, its number, the nodes. -/
def stE (f:Int) (ns:List Nd) (st:Sp):Int:=if st.op=1 then leafE ns st.D st.X else doE ns st.op (f+st.a) (f+st.b) st.k
def stR (f:Int) (ns:List Nd) (st:Sp):Int:=if st.op=1 then leafR ns st.D st.X else doR ns st.op (f+st.a) (f+st.b) st.k
def stN (f:Int) (ns:List Nd) (st:Sp):List Nd:=if st.op=1 then leafN ns st.D st.X else doN ns st.op (f+st.a) (f+st.b) st.k
/-- A step that a plan may hold. -/
structure SpOk (st:Sp):Prop where
 ra:0≤st.a∧st.a≤1000
 rb:0≤st.b∧st.b≤1000
 rk:0≤st.k∧st.k≤1000
 rop:1≤st.op∧st.op≤14
 rD:RI st.D
 rX:RI st.X
theorem lay_any (B tb:Nat) (ns:List Nd) (hG:NodesG ns) (st:Sp) (hok:SpOk st) (hRk:st.op≠1→RkC st.op) (f:Int) (hf:0≤f∧f≤1000) (p:Option Addr) (n c:Nat) (p2:Option Addr) (n2 c2:Nat) (w:World) (hT:TapC w B tb ns) (hTz:Hid (Tz w)) (h1:Nums .i64 w (.slice p n c) st.D) (h2:Nums .i64 w (.slice p2 n2 c2) st.X):
  Calls Tryz.prog 46 #[.pointer (some ⟨tb,0,none⟩),.agg #[.int .i64 st.op,.int .i64 st.a,.int .i64 st.b,.int .i64 st.k,.slice p n c,.slice p2 n2 c2,.bool st.par],.int .i64 f] w fun e w'=>e = .returned (.tuple #[.int .i64 (stR f ns st),.int .i64 (stE f ns st)])∧TapC w' B tb (stN f ns st)∧Below B w w'∧Only SC w w'∧Spar2 tb w w':=by
 obtain ⟨op,a,b,k,D,X,par⟩:=st
 obtain ⟨ra,rb,rk,rop,rD,rX⟩:=hok
 simp only [] at ra rb rk rop rD rX h1 h2 hRk ⊢
 obtain ⟨R,eR⟩:∃ R,stR f ns ⟨op,a,b,k,D,X,par⟩=R:=⟨_,rfl⟩
 obtain ⟨E,eE⟩:∃ R,stE f ns ⟨op,a,b,k,D,X,par⟩=R:=⟨_,rfl⟩
 obtain ⟨NS,eN⟩:∃ R,stN f ns ⟨op,a,b,k,D,X,par⟩=R:=⟨_,rfl⟩
 rw [eR,eE,eN]
 have hzB:B≤w.heap.size:=by
  obtain ⟨hb,v,xs,hv,_⟩:=hT
  exact Nat.le_trans hb (Nat.le_of_lt (heap_lt hv))
 have HZ:Hid (B≤w.heap.size):=hzB
 by_cases h0:op=1
 ·subst h0
  have cl:Hid (∀ W,Below w.heap.size w W→Calls Tryz.prog 64 #[.pointer (some ⟨tb,0,none⟩),.agg #[.slice p n c,.slice p2 n2 c2]] W fun e w'=>e = .returned (.tuple #[.int .i64 R,.int .i64 E])∧TapC w' B tb NS∧Below B W w'∧Only SC W w'∧Spar2 tb W w'):=fun W hW=>by
   have:=cleaf_sp B tb ns hG p p2 n c n2 c2 D X rD rX W (hT.up hW) (h1.up hW) (h2.up hW)
   rw [← eR,← eE,← eN]
   exact this
  clear eR eE eN hT h1 h2 hRk rD rX hzB
  go_enter Tryz.func46,Tryz.ntmps46
  go_wp2_with fail
  generalize hW0:World.alloc _ _=W0
  have HB0:Hid (Below w.heap.size w W0):=by rw [← hW0];exact up_alloc w _
  clear hW0
  refine (cl.out W0 HB0.out).mono ?_
  rintro e w1 ⟨rfl,hT1,hB1,hO1,hS1⟩
  have HF:Hid (TapC w1 B tb NS∧Below B w w1∧Only SC w w1∧Spar2 tb w w1):=⟨hT1,(HB0.out.mono HZ.out).trans hB1,(Only.of HB0.out).trans hO1,Spar2.trans (Spar2.of HB0.out) hS1 HB0.out.size⟩
  clear hT1 hB1 hO1 hS1 cl
  go_wp2
  go_ret2
  exact ⟨rfl,HF.out⟩
 ·have h0':(op==1)=false:=by simpa using h0
  obtain ⟨fa,efa⟩:∃ x,f+a=x:=⟨_,rfl⟩
  obtain ⟨fb,efb⟩:∃ x,f+b=x:=⟨_,rfl⟩
  have cd:Hid (∀ W,Below w.heap.size w W→Calls Tryz.prog 65 #[.pointer (some ⟨tb,0,none⟩),.int .i64 op,.int .i64 fa,.int .i64 fb,.int .i64 k] W fun e w'=>e = .returned (.tuple #[.int .i64 R,.int .i64 E])∧TapC w' B tb NS∧Below B W w'∧Only SC W w'∧Spar2 tb W w'):=fun W hW=>by
   have:=cdo_sp B tb ns hG op fa fb k (hRk h0) (by unfold InR;omega) W (hT.up hW) (Hid.up_tz hTz hW)
   rw [← eR,← eE,← eN]
   unfold stR stE stN
   simp only [if_neg h0]
   rw [efa,efb]
   exact this
  have hfa:0≤fa∧fa≤2000:=by omega
  have hfb:0≤fb∧fb≤2000:=by omega
  clear eR eE eN hT h1 h2 hRk rD rX hzB
  go_enter Tryz.func46,Tryz.ntmps46
  go_wp2_with fail
  generalize hW0:World.alloc _ _=W0
  have HB0:Hid (Below w.heap.size w W0):=by rw [← hW0];exact up_alloc w _
  clear hW0
  refine (cd.out W0 HB0.out).mono ?_
  rintro e w1 ⟨rfl,hT1,hB1,hO1,hS1⟩
  have HF:Hid (TapC w1 B tb NS∧Below B w w1∧Only SC w w1∧Spar2 tb w w1):=⟨hT1,(HB0.out.mono HZ.out).trans hB1,(Only.of HB0.out).trans hO1,Spar2.trans (Spar2.of HB0.out) hS1 HB0.out.size⟩
  clear hT1 hB1 hO1 hS1 cd
  go_wp2
  go_ret2
  exact ⟨rfl,HF.out⟩
end Go.Proofs.YtihjnbbhpojnpaaGreatDoor.Wd
namespace Go.Proofs.YtihjnbbhpojnpaaGreatDoor.Wd
open Go.RowKit
theorem Kept.none (B:Nat) (W:World):Kept B W (.slice none 0 0) []:=fun _ _=>.inl ⟨rfl,rfl⟩
theorem Kept.cut {B:Nat} {W:World} {p:Option Addr} {n c i j:Nat} {l:List Int} (h:Kept B W (.slice p n c) l) (hij:i≤j) (hj:j≤n) (hl:l.length=n) (hn:n≤c):Kept B W (sliced p i j c 1) ((l.drop i).take (j - i)):=fun W' hR=>cut_nums hij hj hl hn (h W' hR)
theorem param_any (B pb:Nat) (sts:List Sp) (rest:List Int) (hfew:sts.length≤200) (d:List Int) (hsm:Smal d) (m:Nat) (hm:prodI d=(m:Int)) (hmr:m≤rest.length) (hrest:rest.length≤1073741824) (p:Option Addr) (n c:Nat) (wa w:World) (hP:PlanO B wa w pb sts rest) (h1:Kept B wa (.slice p n c) d):
  Calls Tryz.prog 62 #[.pointer (some ⟨pb,0,none⟩),.slice p n c] w fun e w'=>e = .returned (.int .i64 (sts.length:Int))∧PlanO B wa w' pb (sts++[⟨1,0,0,0,d,rest.take m,true⟩]) (rest.drop m)∧Rn B w w':=by
 have HP:Hid (PlanO B wa w pb sts rest):=hP
 obtain ⟨hBp,hra,pS,nS',cS,pR,nR,cR,xs,hb,ho,hn,hc,hk,hrc,hrl⟩:=hP
 have hzB:B≤w.heap.size:=Nat.le_trans hBp (Nat.le_of_lt (heap_lt hb))
 have cs:=csize_any _ d hsm w (h1 w hra.r4)
 rw [hm] at cs
 obtain ⟨N,eN⟩:∃ N,sts.length=N:=⟨_,rfl⟩
 have HN:Hid (sts.length=N∧N≤200):=⟨eN,by omega⟩
 rw [eN] at ho hn ⊢
 subst hn
 obtain ⟨⟨x0,y0⟩,⟨x1,y1⟩⟩:=box_2 hb
 have hcutH:=cutF_h pR nR cR m (by omega)
 have hcutL:=cutF_l pR nR cR m (by omega)
 obtain ⟨qh,eqh⟩:=sliced_is pR 0 m cR
 obtain ⟨ql,eql⟩:=sliced_is pR m nR cR
 have kh:=hk.cut (Nat.zero_le m) (by omega) hrl hrc
 have kl:=hk.cut (show m≤nR by omega) (Nat.le_refl _) hrl hrc
 rw [List.drop_zero,Nat.sub_zero] at kh
 rw [List.take_of_length_le (by rw [List.length_drop];omega)] at kl
 rw [eqh] at hcutH kh
 rw [eql] at hcutL kl
 simp only [Nat.sub_zero] at hcutH kh
 have HK:Hid (Kept B wa (.slice qh m cR) (rest.take m)∧Kept B wa (.slice ql (nR - m) (cR - m)) (rest.drop m)∧Kept B wa (.slice p n c) d):=⟨kh,kl,h1⟩
 have HW:Hid (B≤pb∧B≤w.heap.size∧w.heap[pb]?=some (.cells #[.slice pS N cS,.slice pR nR cR] 101 (0,0))∧w.ownsRow B 104 7 (.slice pS N cS) N xs∧StsC B wa sts xs∧(rest.drop m).length=nR - m∧nR - m≤cR - m∧Rn B wa w):=⟨hBp,hzB,hb,ho,hc,by rw [List.length_drop];omega,by omega,hra⟩
 have hzp:=cell_size x0
 clear hBp hb ho hc hk hrc hrl hzB kh kl h1 hra eqh eql hm hmr hrest hfew hsm eN
 go_enter Tryz.func62,Tryz.ntmps62
 go_wp2_with fail
 refine cs.mono ?_
 rintro e w1 ⟨rfl,rfl⟩
 clear cs
 have HV:Hid (PlanO B wa ((w1.setCell ⟨pb,1,none⟩ (.slice ql (nR - m) (cR - m))).alloc (.cells #[.slice p n c,.slice qh m cR] 49)) pb sts (rest.drop m)∧Rn B w1 ((w1.setCell ⟨pb,1,none⟩ (.slice ql (nR - m) (cR - m))).alloc (.cells #[.slice p n c,.slice qh m cR] 49))):=by
  obtain ⟨h1,h2,h3,h4,h5,h6,h7,h8⟩:=HW.out
  have hR:Rn B w1 (w1.setCell ⟨pb,1,none⟩ (.slice ql (nR - m) (cR - m))):=⟨(Below.refl _ _).setCell (p:=⟨pb,1,none⟩) h1 _,Only.set h3 (by simp)⟩
  have hv:(w1.setCell ⟨pb,1,none⟩ (.slice ql (nR - m) (cR - m))).heap[pb]?=some (.cells #[.slice pS N cS,.slice ql (nR - m) (cR - m)] 101 (0,0)):=by
   rw [heap_setat h3]
   rfl
  have hP1:PlanO B wa (w1.setCell ⟨pb,1,none⟩ (.slice ql (nR - m) (cR - m))) pb sts (rest.drop m):=⟨h1,h8.trans hR,_,_,_,_,_,_,_,hv,by rw [HN.out.1];exact owns_only (S:=[101]) h4 (Only.set h3 (by simp)) (by decide),HN.out.1,h5,HK.out.2.1,h7,h6⟩
  exact ⟨hP1.up (up_alloc _ _),hR.trans (Rn.of (Nat.le_trans h2 hR.size) (up_alloc _ _))⟩
 go_wp2_with fail
 have ca:=padd_any B pb sts (rest.drop m) (by rw [HN.out.1];exact HN.out.2) ⟨1,0,0,0,d,rest.take m,true⟩ p n c qh m cR wa _ HV.out.1 HK.out.2.2 HK.out.1
 rw [HN.out.1] at ca
 refine ca.mono ?_
 rintro e w2 ⟨rfl,hP2,hR2⟩
 have HF:Hid (PlanO B wa w2 pb (sts++[⟨1,0,0,0,d,rest.take m,true⟩]) (rest.drop m)∧Rn B w1 w2):=⟨hP2,HV.out.2.trans hR2⟩
 clear ca hP2 hR2 HV x0 x1 y0 y1
 go_wp2
 go_ret
 exact ⟨rfl,HF.out⟩
/-- A step that is no Leaf. -/
abbrev spD (op a b k:Int):Sp:=⟨op,a,b,k,[],[],false⟩
theorem padd_do (B pb N:Nat) (sts:List Sp) (rest:List Int) (hN:sts.length=N) (hfew:N≤200) (op a b k:Int) (wa w:World) (hP:PlanO B wa w pb sts rest):
  Calls Tryz.prog 44 #[.pointer (some ⟨pb,0,none⟩),.agg #[.int .i64 op,.int .i64 a,.int .i64 b,.int .i64 k,.slice none 0 0,.slice none 0 0,.bool false]] w fun e w'=>e = .returned (.int .i64 (N:Int))∧Hid (PlanO B wa w' pb (sts++[spD op a b k]) rest∧(sts++[spD op a b k]).length=N+1∧Rn B w w'):=by
 subst hN
 refine (padd_any B pb sts rest hfew (spD op a b k) none 0 0 none 0 0 wa w hP (Kept.none _ _) (Kept.none _ _)).mono ?_
 rintro e w' ⟨h1,h2,h3⟩
 exact ⟨h1,h2,by simp,h3⟩
/-- What dense lays: its steps, and the last one's number. -/
def denS (two:Bool) (N:Nat) (m r l:Int):List Sp:=if two then [spD 14 l 0 0,spD 4 m (N:Int) 0,spD 8 ((N+1:Nat):Int) 0 1,spD 2 ((N+2:Nat):Int) r 0] else [spD 4 m l 0,spD 8 (N:Int) 0 1,spD 2 ((N+1:Nat):Int) r 0]
def denN (two:Bool) (N:Nat):Nat:=if two then N+3 else N+2
theorem dense_any (B pb N:Nat) (sts:List Sp) (rest:List Int) (hN:sts.length=N) (hfew:N≤190) (m r l:Int) (p:Option Addr) (n c:Nat) (wa w:World) (hP:PlanO B wa w pb sts rest):
  Calls Tryz.prog 63 #[.pointer (some ⟨pb,0,none⟩),.int .i64 m,.int .i64 r,.slice p n c,.int .i64 l] w fun e w'=>e = .returned (.int .i64 (denN (decide (n=2)) N:Int))∧PlanO B wa w' pb (sts++denS (decide (n=2)) N m r l) rest∧Rn B w w':=by
 have HP:Hid (PlanO B wa w pb sts rest∧sts.length=N∧Rn B w w):=⟨hP,hN,Rn.refl _ _⟩
 obtain ⟨R,eR⟩:∃ R,denN (decide (n=2)) N=R:=⟨_,rfl⟩
 obtain ⟨S,eS⟩:∃ S,sts++denS (decide (n=2)) N m r l=S:=⟨_,rfl⟩
 have HR:Hid (denN (decide (n=2)) N=R∧sts++denS (decide (n=2)) N m r l=S):=⟨eR,eS⟩
 rw [eR,eS]
 clear hP eR eS hN
 go_enter Tryz.func63,Tryz.ntmps63
 by_cases h2:n=2
 ·subst h2
  go_wp2_with fail
  refine (padd_do B pb N _ rest HP.out.2.1 (by omega) 14 l 0 0 wa w HP.out.1).mono ?_
  rintro e w1 ⟨rfl,H1⟩
  go_wp2_with fail
  refine (padd_do B pb (N+1) _ rest H1.out.2.1 (by omega) 4 m (N:Int) 0 wa w1 H1.out.1).mono ?_
  rintro e w2 ⟨rfl,H2⟩
  go_wp2_with fail
  refine (padd_do B pb (N+1+1) _ rest H2.out.2.1 (by omega) 8 ((N+1:Nat):Int) 0 1 wa w2 H2.out.1).mono ?_
  rintro e w3 ⟨rfl,H3⟩
  go_wp2_with fail
  refine (padd_do B pb (N+1+1+1) _ rest H3.out.2.1 (by omega) 2 ((N+2:Nat):Int) r 0 wa w3 H3.out.1).mono ?_
  rintro e w4 ⟨rfl,H4⟩
  have e1:R=N+3:=by rw [← HR.out.1];rfl
  have HF:Hid (PlanO B wa w4 pb S rest∧Rn B w w4):=by
   refine ⟨?_,((H1.out.2.2.trans H2.out.2.2).trans H3.out.2.2).trans H4.out.2.2⟩
   rw [← HR.out.2]
   have:=H4.out.1
   simp only [List.append_assoc,List.cons_append,List.nil_append] at this
   exact this
  subst e1
  clear H1 H2 H3 H4
  go_wp2
  go_ret
  exact ⟨by simp;omega,HF.out⟩
 ·have h2':((n:Int)==2)=false:=by simpa using (show (n:Int)≠2 by omega)
  go_wp2_with fail
  refine (padd_do B pb N _ rest HP.out.2.1 (by omega) 4 m l 0 wa w HP.out.1).mono ?_
  rintro e w2 ⟨rfl,H2⟩
  go_wp2_with fail
  refine (padd_do B pb (N+1) _ rest H2.out.2.1 (by omega) 8 (N:Int) 0 1 wa w2 H2.out.1).mono ?_
  rintro e w3 ⟨rfl,H3⟩
  go_wp2_with fail
  refine (padd_do B pb (N+1+1) _ rest H3.out.2.1 (by omega) 2 ((N+1:Nat):Int) r 0 wa w3 H3.out.1).mono ?_
  rintro e w4 ⟨rfl,H4⟩
  have e1:R=N+2:=by rw [← HR.out.1,decide_eq_false h2];rfl
  have HF:Hid (PlanO B wa w4 pb S rest∧Rn B w w4):=by
   refine ⟨?_,(H2.out.2.2.trans H3.out.2.2).trans H4.out.2.2⟩
   rw [← HR.out.2,decide_eq_false h2]
   have:=H4.out.1
   simp only [List.append_assoc,List.cons_append,List.nil_append] at this
   exact this
  subst e1
  clear H2 H3 H4
  go_wp2
  go_ret
  exact ⟨by simp;omega,HF.out⟩
/-- A Leaf of parameters. -/
abbrev spL (D X:List Int):Sp:=⟨1,0,0,0,D,X,true⟩
/-- The Leafs of the first j parameters, and what is left. -/
def prS (PP:List (List Int)) (rest:List Int):Nat→List Sp×List Int
 | 0=>([],rest)
 | j+1=>((prS PP rest j).1++[spL (shA PP j) ((prS PP rest j).2.take (prodI (shA PP j)).toNat)],(prS PP rest j).2.drop (prodI (shA PP j)).toNat)
theorem prS_len {PP:List (List Int)} {rest:List Int}:∀ j,(∀ i,i < j→0≤prodI (shA PP i))→(∀ i,i≤j→sumP PP i≤(rest.length:Int))→((prS PP rest j).2.length:Int)=(rest.length:Int) - sumP PP j∧(prS PP rest j).1.length=j
 | 0,_,_=>by simp [prS,sumP]
 | j+1,h,h2=>by
  obtain ⟨ih,ih2⟩:=prS_len j (fun i hi=>h i (by omega)) (fun i hi=>h2 i (by omega))
  have h3:=h j (by omega)
  have h4:=h2 (j+1) (by omega)
  simp only [sumP] at h4 ⊢
  simp only [prS,List.length_drop,List.length_append,List.length_cons,List.length_nil]
  omega
/-- The numbers of nodes, from N on. -/
def nodL (N j:Nat):List Int:=(List.range j).map fun i=>((N+i:Nat):Int)
theorem nodL_succ (N j:Nat):nodL N (j+1)=nodL N j++[((N+j:Nat):Int)]:=by simp [nodL,List.range_succ]
theorem Rn.low {B:Nat} {Wa W W':World} (h:Rn B Wa W) (hB:B≤Wa.heap.size) (h2:Below Wa.heap.size W W'):Rn B Wa W':=⟨h.bel.trans (h2.mono hB),Nat.le_trans h.onl.1 h2.size,fun k hk hp=>(h2.block k hk).trans (h.onl.2 k hk hp)⟩
theorem PlanO.int {B:Nat} {Wa W W':World} {pb:Nat} {sts:List Sp} {rest:List Int} (h:PlanO B Wa W pb sts rest) (hB:B≤Wa.heap.size) (ho:Only [3] W W') (h2:Below Wa.heap.size W W'):PlanO B Wa W' pb sts rest:=by
 obtain ⟨hb,hr,p,n,c,p2,n2,c2,xs,h1,h3,h4⟩:=h
 exact ⟨hb,hr.low hB h2,p,n,c,p2,n2,c2,xs,ho.keep h1 (by decide),owns_only h3 ho (by decide),h4⟩
theorem PlanO.rn {B:Nat} {Wa W:World} {pb:Nat} {sts:List Sp} {rest:List Int} (h:PlanO B Wa W pb sts rest):Rn B Wa W:=h.2.1
theorem Rn.block {B:Nat} {Wa W:World} (h:Rn B Wa W) {k:Nat} {cs:Array Value} {e:TypeId} {fz:Nat×Nat} (hk:Wa.heap[k]?=some (.cells cs e fz)) (he:e∉S2):W.heap[k]?=some (.cells cs e fz):=h.onl.keep hk he
theorem OwnS.dims {B:Nat} {Wa:World} {p:Option Addr} {n c:Nat} {PP:List (List Int)} (h:OwnS Wa 0 (.slice p n c) PP) (hn:PP.length=n):∀ j,j < n→∃ q o a b d,p=some ⟨q,o,none⟩∧(∀ W',Rn B Wa W'→W'.cell? ⟨q,o+j,none⟩=some (.slice a b d))∧Kept B Wa (.slice a b d) (shA PP j):=by
 subst hn
 intro j hj
 obtain ⟨vs,h3,h4⟩:=h
 obtain ⟨a,b,d,e,h5⟩:=h4 j hj
 have h3':=h3
 rcases h3.2 with ⟨_,h0⟩|⟨g,cap,cur,e2,hB,hc,_⟩
 ·omega
 ·cases e2
  refine ⟨g,0,a,b,d,rfl,fun W' hR=>?_,h5.kept (by decide)⟩
  have:=World.ownsRow.cells (owns_only h3' hR.onl (by decide)) rfl j _ e
  rw [addr_plus] at this
  exact this
theorem intT1:GT Tryz.prog 23 3 1 8:=⟨Tryz.underlying23,by kernel_rfl⟩
/-- What a layer lays: its steps, and the number of what comes out. -/
def layS (l:Ly) (d:List Int) (N:Nat) (rest:List Int) (bf last:Int):List Sp:=(prS (parD l d) rest (parD l d).length).1++(if kindI l.1=0 then denS (decide (d.length=2)) (N+2) (N:Int) ((N+1:Nat):Int) last else if kindI l.1=1 then [spD 12 last (N:Int) 1] else if kindI l.1=2 then [spD 13 last 0 l.2.1] else if kindI l.1=3 then [spD 11 last 0 l.2.1] else [spD 2 bf last 0])
def layN (l:Ly) (d:List Int) (N:Nat):Nat:=if kindI l.1=0 then denN (decide (d.length=2)) (N+2) else if kindI l.1=1 then N+1 else N
def layR (l:Ly) (d:List Int) (rest:List Int):List Int:=(prS (parD l d) rest (parD l d).length).2
theorem layer_any (B pb N:Nat) (sts:List Sp) (rest:List Int) (hN:sts.length=N) (hfew:N≤180) (s:ByteArray) (a b:Int) (hl:LayOk (s,a,b)) (d:List Int) (hd:InOk d) (hfit:kindI s=1→d.length=2) (hsum:psz (s,a,b) d≤(rest.length:Int)) (hrl:rest.length≤1073741824) (p:Option Addr) (n c:Nat) (bf last:Int) (w:World) (hP:PlanO B w w pb sts rest) (h1:Kept B w (.slice p n c) d):
  Calls Tryz.prog 45 #[.pointer (some ⟨pb,0,none⟩),.agg #[.string s,.int .i64 a,.int .i64 b],.slice p n c,.int .i64 bf,.int .i64 last] w fun e w'=>e = .returned (.int .i64 (layN (s,a,b) d N:Int))∧PlanO B w' w' pb (sts++layS (s,a,b) d N rest bf last) (layR (s,a,b) d rest)∧Rn B w w':=by
 haveI:Nonempty World:=⟨w⟩
 obtain ⟨RN,eRN⟩:∃ R,layN (s,a,b) d N=R:=⟨_,rfl⟩
 obtain ⟨RS,eRS⟩:∃ R,layS (s,a,b) d N rest bf last=R:=⟨_,rfl⟩
 obtain ⟨RR,eRR⟩:∃ R,layR (s,a,b) d rest=R:=⟨_,rfl⟩
 rw [eRN,eRS,eRR]
 obtain ⟨PP,eP⟩:∃ PP,parD (s,a,b) d=PP:=⟨_,rfl⟩
 have hnd:d.length=n:=by
  obtain ⟨_,_,_,e,h⟩:=h1.nums.lst
  cases e
  exact h.out.1
 obtain ⟨np,enp⟩:∃ n,PP.length=n:=⟨_,rfl⟩
 have hsr:=sumP_rng hl hd
 have hsz:=sumP_psz (l:=(s,a,b)) (d:=d)
 have hsmal:=parD_smal hl hd
 have hlen:=parD_len (s,a,b) d
 rw [eP] at hsr hsz hsmal hlen
 rw [enp] at hsr hsz hsmal hlen
 have hpr:∀ i,i < np→0≤prodI (shA PP i):=fun i hi=>by
  rw [← eP,← enp] at *
  have hp:=hd.prod
  unfold parD at hi ⊢
  rcases layOk_cases hl with ⟨-,k,g1,g2⟩|⟨-,k,g1,g2⟩|⟨-,k,g1,g2⟩|⟨-,k,g1,g2⟩|⟨-,k,g1,g2⟩ <;> simp only [] at k g1 g2 hi ⊢ <;> rw [k] at hi ⊢ <;> simp at hi
  ·have:=mprod_rng g1 hp
   rcases (show i=0∨i=1 by omega) with rfl|rfl <;> simp [shA,prodI_two,prodI_one] <;> omega
  ·subst hi
   have h0:0≤d.getD 0 0:=by rcases hd with ⟨x,rfl,h⟩|⟨x,y,rfl,hx,hy⟩ <;> simp <;> omega
   simp only [if_neg (show ¬ (1:Nat)=0 by omega),if_true]
   show 0≤prodI [a,d.getD 0 0,b]
   rw [prodI_three]
   exact Int.mul_nonneg (Int.mul_nonneg (by omega) h0) (by omega)
 have hmono:∀ i,i≤np→sumP PP i≤(rest.length:Int):=by
  have key:∀ k i,i+k=np→sumP PP i≤sumP PP np:=by
   intro k
   induction k with
   | zero=>intro i hi;rw [show i=np by omega];exact Int.le_refl _
   | succ k ih=>
    intro i hi
    have h5:=ih (i+1) (by omega)
    have h6:=hpr i (by omega)
    simp only [sumP] at h5
    omega
  intro i hi
  have:=key (np - i) i (by omega)
  omega
 have hprl:∀ j,j≤np→((prS PP rest j).2.length:Int)=(rest.length:Int) - sumP PP j∧(prS PP rest j).1.length=j:=fun j hj=>prS_len j (fun i hi=>hpr i (by omega)) (fun i hi=>hmono i (by omega))
 have HM:Hid ((∀ j,j≤np→(prS PP rest j).2.length≤rest.length∧(prS PP rest j).1.length=j)∧(∀ j,j < np→(prodI (shA PP j)).toNat≤(prS PP rest j).2.length∧prodI (shA PP j)=((prodI (shA PP j)).toNat:Int)∧Smal (shA PP j))):=by
  refine ⟨fun j hj=>?_,fun j hj=>?_⟩
  ·have:=hprl j hj
   have h5:=hsr j (by omega)
   exact ⟨by omega,this.2⟩
  ·have:=hprl j (by omega)
   have h5:=hpr j hj
   have h6:=hmono (j+1) (by omega)
   simp only [sumP] at h6
   exact ⟨by omega,by omega,hsmal j hj⟩
 have hkc:=layOk_cases hl
 have cp:Hid (∀ W,Below w.heap.size w W→Calls Tryz.prog 43 #[.agg #[.string s,.int .i64 a,.int .i64 b],.slice p n c] W fun e w'=>∃ v',e = .returned v'∧ParR PP v' w'∧Below W.heap.size W w'):=fun W hW=>by
  rw [← eP]
  exact paramsOf_any s a b d hl hd hfit p n c W (h1.nums.up hW)
 have HR:Hid (layN (s,a,b) d N=RN∧layS (s,a,b) d N rest bf last=RS∧layR (s,a,b) d rest=RR∧parD (s,a,b) d=PP∧PP.length=np∧d.length=n∧sts.length=N∧np≤2∧rest.length≤1073741824):=⟨eRN,eRS,eRR,eP,enp,hnd,hN,hlen,hrl⟩
 have HP:Hid (PlanO B w w pb sts rest):=hP
 obtain ⟨t0,t1,t2,t3,-⟩:=kts s
 clear eRN eRS eRR eP enp hnd hsr hsz hsmal hpr hmono hprl hP h1 hsum hrl hfit hd hl hN
 go_enter Tryz.func45,Tryz.ntmps45
 go_wp2_with fail
 generalize hW0:World.alloc _ _=W0
 have HB0:Hid (Below w.heap.size w W0):=by rw [← hW0];exact up_alloc w _
 have HX0:Hid (W0.heap[w.heap.size]?=some (.cells #[.string s,.int .i64 a,.int .i64 b] 65 (0,0))):=by
  show _=_
  rw [← hW0]
  exact Array.getElem?_push_size
 clear hW0
 refine (cp.out W0 HB0.out).mono ?_
 rintro e Wa ⟨v1,rfl,hp1,hB1⟩
 obtain ⟨p16,c16,rfl,-,ho16⟩:=hp1
 have hBa:Below w.heap.size w Wa:=bstep HB0.out hB1
 rw [HR.out.2.2.2.2.1] at ho16 ⊢
 have HPa:Hid (PlanO B Wa Wa pb sts rest∧B≤Wa.heap.size∧Rn B w Wa):=⟨(HP.out.up hBa).on,Nat.le_trans HP.out.size hBa.size,Rn.of HP.out.size hBa⟩
 have HD:Hid (∀ j,j < np→∃ q o a b d,p16=some ⟨q,o,none⟩∧(∀ W',Rn B Wa W'→W'.cell? ⟨q,o+j,none⟩=some (.slice a b d))∧Kept B Wa (.slice a b d) (shA PP j)):=OwnS.dims ho16 HR.out.2.2.2.2.1
 have HXa:Hid (Wa.heap[w.heap.size]?=some (.cells #[.string s,.int .i64 a,.int .i64 b] 65 (0,0))):=(hB1.block _ (heap_lt HX0.out)).trans HX0.out
 have hnp2:np≤2:=hlen
 clear ho16 hB1 hBa cp HX0 HB0
 go_wp2_with fail
 go_loopg [11,18] np (fun gg u v wr=>∃ (j:Nat),j≤np∧gg=np - j∧v = .int .i64 (j:Int)∧Hid (OwnK .i64 3 wr Wa.heap.size u (nodL N j))∧Hid (PlanO B Wa wr pb (sts++(prS PP rest j).1) (prS PP rest j).2))
 case atStart=>exact ⟨0,by omega,by omega,rfl,OwnK.nil _ _ _ _,by show PlanO _ _ _ _ _ _;simpa [prS] using HPa.out.1⟩
 case round=>
  obtain ⟨j,hj,hg,rfl,HO,HJ⟩:=hrel
  obtain ⟨pv,nv,cv,rfl,HCv⟩:=HO.out.nums.lst
  have hnv:nodL N j=nodL N j:=rfl
  have hnvl:=HCv.out.1
  simp only [nodL,List.length_map,List.length_range] at hnvl
  subst hnvl
  clear hnv
  by_cases hjn:j < np
  ·have hj':(j:Int) < (np:Int):=by omega
   obtain ⟨q,o,a3,b3,d3,rfl,hcell,hk3⟩:=HD.out j hjn
   have c0:=hcell wr HJ.out.rn
   obtain ⟨m1,m2,m3⟩:=HM.out.2 j hjn
   have hrest:=HM.out.1 j (by omega)
   have hNl:(sts++(prS PP rest j).1).length=N+j:=by rw [List.length_append,hrest.2,HR.out.2.2.2.2.2.2.1]
   have cq:=param_any B pb (sts++(prS PP rest j).1) (prS PP rest j).2 (by rw [hNl];omega) (shA PP j) m3 _ m2 m1 (by have:=HR.out.2.2.2.2.2.2.2.2;omega) a3 b3 d3 Wa wr HJ.out hk3
   rw [hNl] at cq
   clear m1 m2 m3 hk3 hcell hrest hNl HCv
   go_wp2_with fail
   refine cq.mono ?_
   rintro e w1 ⟨rfl,hP1,hR1⟩
   have HO1:Hid (OwnK .i64 3 w1 Wa.heap.size (.slice pv j cv) (nodL N j)):=HO.out.only hR1.onl (by decide)
   have HJ1:Hid (PlanO B Wa w1 pb (sts++(prS PP rest (j+1)).1) (prS PP rest (j+1)).2):=by
    have:=hP1
    rw [List.append_assoc] at this
    exact this
   have HZ1:Hid (Wa.heap.size≤w1.heap.size):=HJ1.out.rn.size
   have hbl:Below w1.heap.size w1 (w1.alloc (.cells #[.int .i64 ((N+j:Nat):Int)] 3)):=up_alloc w1 _
   have A1:Hid ((w1.alloc (.cells #[.int .i64 ((N+j:Nat):Int)] 3)).ownsRow Wa.heap.size 3 1 (.slice pv j cv) j (vals .i64 (nodL N j))):=by
    have:=HO1.out.up hbl
    unfold OwnK at this
    rw [show (nodL N j).length=j by simp [nodL]] at this
    exact this
   have A2:Hid ((w1.alloc (.cells #[.int .i64 ((N+j:Nat):Int)] 3)).heap[w1.heap.size]?=some (.cells [Value.int .i64 ((N+j:Nat):Int)].toArray 3 (0,0))):=Array.getElem?_push_size
   have A3:Hid (∀ y∈[Value.int .i64 ((N+j:Nat):Int)],y.oneCell'=true):=fun y hy=>by simp at hy;subst hy;rfl
   have A4:Hid (Wa.heap.size≤(w1.alloc (.cells #[.int .i64 ((N+j:Nat):Int)] 3)).heap.size):=Nat.le_trans HZ1.out hbl.size
   clear cq hP1 hR1 HO HJ c0 hbl
   go_wp2_with (at_builtin;refine wpList_appG intT1 (by decide) (by decide) rfl (.tmp 22) (.tmp 26) rfl Wa.heap.size _ _ _ rfl A1.out _ [.int .i64 ((N+j:Nat):Int)] rfl A2.out rfl A3.out (by omega) A4.out ?_;intro v0 w0 H0 O0 B0)
   have HF:Hid (OwnK .i64 3 w0 Wa.heap.size v0 (nodL N (j+1))):=by
    show OwnK _ _ _ _ _ _
    unfold OwnK
    rw [nodL_succ,show (nodL N j++[((N+j:Nat):Int)]).length=j+1 by simp [nodL]]
    have:=H0.out
    unfold vals at *
    rw [List.map_append]
    exact this
   have HF2:Hid (PlanO B Wa w0 pb (sts++(prS PP rest (j+1)).1) (prS PP rest (j+1)).2):=(HJ1.out.up (up_alloc w1 _)).int HPa.out.2.1 O0.out (B0.out _ (Below.refl _ _))
   clear A1 A2 A3 A4 H0 O0 B0 HO1 HJ1
   go_wp2
   go_roundg (np - (j+1))
   case measure=>omega
   case rel=>exact ⟨j+1,by omega,rfl,by first|rfl|simp,HF,HF2⟩
  ·obtain rfl:j=np:=by omega
   have hX:=HJ.out.rn.block HXa.out (by decide)
   obtain ⟨⟨y0,_⟩,⟨y1,_⟩,⟨y2,_⟩⟩:=box_3 hX
   have hNN:(sts++(prS PP rest j).1).length=N+j:=by rw [List.length_append,(HM.out.1 j (Nat.le_refl _)).2,HR.out.2.2.2.2.2.2.1]
   have hjl:(parD (s,a,b) d).length=j:=by rw [HR.out.2.2.2.1];exact HR.out.2.2.2.2.1
   have hcv:=HCv.out.2
   clear hX hnp2 hlen
   rcases hkc with ⟨-,k,-⟩|⟨-,k,-⟩|⟨-,k,-⟩|⟨-,k,-⟩|⟨-,k,-⟩ <;> (try simp only [] at k) <;> rw [k] at t0 t1 t2 t3 <;> simp [parD,k] at hjl
   ·replace t0:=t0.trans (show decide ((0:Nat)=0)=true from rfl)
    subst hjl
    obtain ⟨q,o,rfl,c0⟩:=hcv 0 (by omega)
    obtain ⟨q',o',e',c1⟩:=hcv 1 (by omega)
    cases e'
    replace c0:wr.cell? ⟨q,o,none⟩=some (.int .i64 (N:Int)):=c0
    replace c1:wr.cell? ⟨q,o+1,none⟩=some (.int .i64 ((N+1:Nat):Int)):=c1
    have hz1:=cell_size c0
    clear hcv HCv HO HD t1 t2 t3
    go_wp2
    refine rel [] 9 73 (by kernel_rfl) rfl rfl (by kernel_rfl) (by rfl) ?_ ?_
    ·intro e he;simp at he
    apply Exists.intro
    refine ⟨fun x=>?_,?_,?_⟩
    ·simp only [List.take_succ_cons,List.take_zero]
     iterate 9
      refine relQuiet rfl rfl ?_
      apply Exists.intro
      refine ⟨fun F hF hf K hK=>?_,?_⟩
      ·have hFc:=hF.cell
       have hFf:=hF.frozen
       go_big_quiet_op
       first|exact hK|(apply Exists.intro;refine ⟨fun _=>?_,?_⟩;(· fail);exact hK)
      (try simp only [Act.put,List.setIfInBounds_toArray,List.set_cons_zero,List.set_cons_succ])
     refine relEnd ?_
     exact rfl
    ·exact fun x=>rfl
    ·intro w9 xs hB9 hf
     simp only [List.drop_succ_cons,List.drop_zero]
     have HJ9:Hid (PlanO B Wa w9 pb (sts++(prS PP rest 2).1) (prS PP rest 2).2):=HJ.out.up hB9
     clear hf hB9 c0 c1
     go_wp2_with fail
     refine (dense_any B pb (N+2) _ _ hNN (by omega) (N:Int) ((N+1:Nat):Int) last p n c Wa w9 HJ9.out).mono ?_
     rintro e w2 ⟨rfl,hP2,hR2⟩
     have HF:Hid (PlanO B w2 w2 pb (sts++RS) RR∧Rn B w w2):=by
      refine ⟨?_,HPa.out.2.2.trans hP2.rn⟩
      have h3:=hP2.on
      rw [List.append_assoc] at h3
      rw [← HR.out.2.1,← HR.out.2.2.1]
      unfold layS layR
      rw [HR.out.2.2.2.1,HR.out.2.2.2.2.1,HR.out.2.2.2.2.2.1]
      simp only [k,if_true]
      exact h3
     have eN:RN=denN (decide (n=2)) (N+2):=by
      rw [← HR.out.1]
      unfold layN
      rw [HR.out.2.2.2.2.2.1]
      simp only [k,if_true]
     rw [← eN]
     clear hP2 hR2 HR
     go_wp2
     go_ret
     exact ⟨by first|rfl|simp [eN],HF.out⟩
   ·replace t0:=t0.trans (show decide ((1:Nat)=0)=false from rfl)
    replace t1:=t1.trans (show decide ((1:Nat)=1)=true from rfl)
    subst hjl
    obtain ⟨q,o,rfl,c0⟩:=hcv 0 (by omega)
    replace c0:wr.cell? ⟨q,o,none⟩=some (.int .i64 (N:Int)):=c0
    have hz1:=cell_size c0
    clear hcv HCv HO HD t2 t3
    go_wp2_with fail
    refine (padd_do B pb (N+1) _ _ hNN (by omega) 12 last (N:Int) 1 Wa wr HJ.out).mono ?_
    rintro e w2 ⟨rfl,H2⟩
    have HF:Hid (PlanO B w2 w2 pb (sts++RS) RR∧Rn B w w2):=by
     refine ⟨?_,HPa.out.2.2.trans H2.out.1.rn⟩
     have h3:=H2.out.1.on
     rw [List.append_assoc] at h3
     rw [← HR.out.2.1,← HR.out.2.2.1]
     unfold layS layR
     rw [HR.out.2.2.2.1,HR.out.2.2.2.2.1]
     simp only [k,if_true,if_false,if_neg (show ¬ (1:Nat)=0 by omega),if_neg (show ¬ (2:Nat)=0 by omega),if_neg (show ¬ (2:Nat)=1 by omega),if_neg (show ¬ (3:Nat)=0 by omega),if_neg (show ¬ (3:Nat)=1 by omega),if_neg (show ¬ (3:Nat)=2 by omega),if_neg (show ¬ (4:Nat)=0 by omega),if_neg (show ¬ (4:Nat)=1 by omega),if_neg (show ¬ (4:Nat)=2 by omega),if_neg (show ¬ (4:Nat)=3 by omega)]
     exact h3
    have eN:RN=N+1:=by
     rw [← HR.out.1]
     unfold layN
     simp only [k,if_true,if_false,if_neg (show ¬ (1:Nat)=0 by omega),if_neg (show ¬ (2:Nat)=0 by omega),if_neg (show ¬ (2:Nat)=1 by omega),if_neg (show ¬ (3:Nat)=0 by omega),if_neg (show ¬ (3:Nat)=1 by omega),if_neg (show ¬ (3:Nat)=2 by omega),if_neg (show ¬ (4:Nat)=0 by omega),if_neg (show ¬ (4:Nat)=1 by omega),if_neg (show ¬ (4:Nat)=2 by omega),if_neg (show ¬ (4:Nat)=3 by omega)]
     (try rfl)
    subst eN
    clear H2 HR
    go_wp2
    go_ret
    exact ⟨by first|rfl|simp,HF.out⟩
   ·replace t0:=t0.trans (show decide ((2:Nat)=0)=false from rfl)
    replace t1:=t1.trans (show decide ((2:Nat)=1)=false from rfl)
    replace t2:=t2.trans (show decide ((2:Nat)=2)=true from rfl)
    subst hjl
    clear hcv HCv HO HD
    go_wp2_with fail
    refine (padd_do B pb (N+0) _ _ hNN (by omega) 13 last 0 a Wa wr HJ.out).mono ?_
    rintro e w2 ⟨rfl,H2⟩
    have HF:Hid (PlanO B w2 w2 pb (sts++RS) RR∧Rn B w w2):=by
     refine ⟨?_,HPa.out.2.2.trans H2.out.1.rn⟩
     have h3:=H2.out.1.on
     rw [List.append_assoc] at h3
     rw [← HR.out.2.1,← HR.out.2.2.1]
     unfold layS layR
     rw [HR.out.2.2.2.1,HR.out.2.2.2.2.1]
     simp only [k,if_true,if_false,if_neg (show ¬ (1:Nat)=0 by omega),if_neg (show ¬ (2:Nat)=0 by omega),if_neg (show ¬ (2:Nat)=1 by omega),if_neg (show ¬ (3:Nat)=0 by omega),if_neg (show ¬ (3:Nat)=1 by omega),if_neg (show ¬ (3:Nat)=2 by omega),if_neg (show ¬ (4:Nat)=0 by omega),if_neg (show ¬ (4:Nat)=1 by omega),if_neg (show ¬ (4:Nat)=2 by omega),if_neg (show ¬ (4:Nat)=3 by omega)]
     exact h3
    have eN:RN=N+0:=by
     rw [← HR.out.1]
     unfold layN
     simp only [k,if_true,if_false,if_neg (show ¬ (1:Nat)=0 by omega),if_neg (show ¬ (2:Nat)=0 by omega),if_neg (show ¬ (2:Nat)=1 by omega),if_neg (show ¬ (3:Nat)=0 by omega),if_neg (show ¬ (3:Nat)=1 by omega),if_neg (show ¬ (3:Nat)=2 by omega),if_neg (show ¬ (4:Nat)=0 by omega),if_neg (show ¬ (4:Nat)=1 by omega),if_neg (show ¬ (4:Nat)=2 by omega),if_neg (show ¬ (4:Nat)=3 by omega)]
     (try rfl)
    subst eN
    clear H2 HR
    go_wp2
    go_ret
    exact ⟨by first|rfl|simp,HF.out⟩
   ·replace t0:=t0.trans (show decide ((3:Nat)=0)=false from rfl)
    replace t1:=t1.trans (show decide ((3:Nat)=1)=false from rfl)
    replace t2:=t2.trans (show decide ((3:Nat)=2)=false from rfl)
    replace t3:=t3.trans (show decide ((3:Nat)=3)=true from rfl)
    subst hjl
    clear hcv HCv HO HD
    go_wp2_with fail
    refine (padd_do B pb (N+0) _ _ hNN (by omega) 11 last 0 a Wa wr HJ.out).mono ?_
    rintro e w2 ⟨rfl,H2⟩
    have HF:Hid (PlanO B w2 w2 pb (sts++RS) RR∧Rn B w w2):=by
     refine ⟨?_,HPa.out.2.2.trans H2.out.1.rn⟩
     have h3:=H2.out.1.on
     rw [List.append_assoc] at h3
     rw [← HR.out.2.1,← HR.out.2.2.1]
     unfold layS layR
     rw [HR.out.2.2.2.1,HR.out.2.2.2.2.1]
     simp only [k,if_true,if_false,if_neg (show ¬ (1:Nat)=0 by omega),if_neg (show ¬ (2:Nat)=0 by omega),if_neg (show ¬ (2:Nat)=1 by omega),if_neg (show ¬ (3:Nat)=0 by omega),if_neg (show ¬ (3:Nat)=1 by omega),if_neg (show ¬ (3:Nat)=2 by omega),if_neg (show ¬ (4:Nat)=0 by omega),if_neg (show ¬ (4:Nat)=1 by omega),if_neg (show ¬ (4:Nat)=2 by omega),if_neg (show ¬ (4:Nat)=3 by omega)]
     exact h3
    have eN:RN=N+0:=by
     rw [← HR.out.1]
     unfold layN
     simp only [k,if_true,if_false,if_neg (show ¬ (1:Nat)=0 by omega),if_neg (show ¬ (2:Nat)=0 by omega),if_neg (show ¬ (2:Nat)=1 by omega),if_neg (show ¬ (3:Nat)=0 by omega),if_neg (show ¬ (3:Nat)=1 by omega),if_neg (show ¬ (3:Nat)=2 by omega),if_neg (show ¬ (4:Nat)=0 by omega),if_neg (show ¬ (4:Nat)=1 by omega),if_neg (show ¬ (4:Nat)=2 by omega),if_neg (show ¬ (4:Nat)=3 by omega)]
     (try rfl)
    subst eN
    clear H2 HR
    go_wp2
    go_ret
    exact ⟨by first|rfl|simp,HF.out⟩
   ·replace t0:=t0.trans (show decide ((4:Nat)=0)=false from rfl)
    replace t1:=t1.trans (show decide ((4:Nat)=1)=false from rfl)
    replace t2:=t2.trans (show decide ((4:Nat)=2)=false from rfl)
    replace t3:=t3.trans (show decide ((4:Nat)=3)=false from rfl)
    subst hjl
    clear hcv HCv HO HD
    go_wp2_with fail
    refine (padd_do B pb (N+0) _ _ hNN (by omega) 2 bf last 0 Wa wr HJ.out).mono ?_
    rintro e w2 ⟨rfl,H2⟩
    have HF:Hid (PlanO B w2 w2 pb (sts++RS) RR∧Rn B w w2):=by
     refine ⟨?_,HPa.out.2.2.trans H2.out.1.rn⟩
     have h3:=H2.out.1.on
     rw [List.append_assoc] at h3
     rw [← HR.out.2.1,← HR.out.2.2.1]
     unfold layS layR
     rw [HR.out.2.2.2.1,HR.out.2.2.2.2.1]
     simp only [k,if_true,if_false,if_neg (show ¬ (1:Nat)=0 by omega),if_neg (show ¬ (2:Nat)=0 by omega),if_neg (show ¬ (2:Nat)=1 by omega),if_neg (show ¬ (3:Nat)=0 by omega),if_neg (show ¬ (3:Nat)=1 by omega),if_neg (show ¬ (3:Nat)=2 by omega),if_neg (show ¬ (4:Nat)=0 by omega),if_neg (show ¬ (4:Nat)=1 by omega),if_neg (show ¬ (4:Nat)=2 by omega),if_neg (show ¬ (4:Nat)=3 by omega)]
     exact h3
    have eN:RN=N+0:=by
     rw [← HR.out.1]
     unfold layN
     simp only [k,if_true,if_false,if_neg (show ¬ (1:Nat)=0 by omega),if_neg (show ¬ (2:Nat)=0 by omega),if_neg (show ¬ (2:Nat)=1 by omega),if_neg (show ¬ (3:Nat)=0 by omega),if_neg (show ¬ (3:Nat)=1 by omega),if_neg (show ¬ (3:Nat)=2 by omega),if_neg (show ¬ (4:Nat)=0 by omega),if_neg (show ¬ (4:Nat)=1 by omega),if_neg (show ¬ (4:Nat)=2 by omega),if_neg (show ¬ (4:Nat)=3 by omega)]
     (try rfl)
    subst eN
    clear H2 HR
    go_wp2
    go_ret
    exact ⟨by first|rfl|simp,HF.out⟩
/-- The plan of the first i layers: its steps, the parameters that are left, what went in, what comes out. -/
def plF (d:List Int) (ls:List Ly) (S:List (List Int)) (P X:List Int):Nat→List Sp×List Int×Int×Int
 | 0=>([⟨1,0,0,0,d,X,false⟩],P,0,0)
 | i+1=>((plF d ls S P X i).1++layS (lyA ls i) (shA S i) (plF d ls S P X i).1.length (plF d ls S P X i).2.1 (plF d ls S P X i).2.2.1 (plF d ls S P X i).2.2.2,layR (lyA ls i) (shA S i) (plF d ls S P X i).2.1,(plF d ls S P X i).2.2.2,(layN (lyA ls i) (shA S i) (plF d ls S P X i).1.length:Int))
theorem prS_few (PP:List (List Int)) (rest:List Int):∀ j,(prS PP rest j).1.length=j
 | 0=>rfl
 | j+1=>by simp [prS,prS_few PP rest j]
theorem layS_few (l:Ly) (d:List Int) (N:Nat) (rest:List Int) (bf last:Int):(layS l d N rest bf last).length≤6:=by
 unfold layS
 rw [List.length_append,prS_few]
 have:=parD_len l d
 have h2:kindI l.1≠0→(parD l d).length≤1:=fun h=>by unfold parD;rw [if_neg h];split <;> simp
 by_cases h0:kindI l.1=0
 ·rw [if_pos h0];unfold denS;split <;> simp <;> omega
 ·have:=h2 h0
  rw [if_neg h0]
  split
  ·simp;omega
  ·split
   ·simp;omega
   ·split <;> simp <;> omega
theorem plF_few (d:List Int) (ls:List Ly) (S:List (List Int)) (P X:List Int):∀ i,(plF d ls S P X i).1.length≤1+6*i
 | 0=>by simp [plF]
 | i+1=>by
  have:=plF_few d ls S P X i
  have h2:=layS_few (lyA ls i) (shA S i) (plF d ls S P X i).1.length (plF d ls S P X i).2.1 (plF d ls S P X i).2.2.1 (plF d ls S P X i).2.2.2
  simp only [plF,List.length_append]
  omega
theorem prod_par {l:Ly} {d:List Int} (hl:LayOk l) (hd:InOk d):∀ i,i < (parD l d).length→0≤prodI (shA (parD l d) i):=fun i hi=>by
 have hp:=hd.prod
 unfold parD at hi ⊢
 rcases layOk_cases hl with ⟨-,k,g1,g2⟩|⟨-,k,g1,g2⟩|⟨-,k,g1,g2⟩|⟨-,k,g1,g2⟩|⟨-,k,g1,g2⟩ <;> rw [k] at hi ⊢ <;> simp at hi
 ·have:=mprod_rng g1 hp
  rcases (show i=0∨i=1 by omega) with rfl|rfl <;> simp [shA,prodI_two,prodI_one] <;> omega
 ·subst hi
  have h0:0≤d.getD 0 0:=by rcases hd with ⟨x,rfl,h⟩|⟨x,y,rfl,hx,hy⟩ <;> simp <;> omega
  simp only [if_neg (show ¬ (1:Nat)=0 by omega),if_true]
  show 0≤prodI [l.2.1,d.getD 0 0,l.2.2]
  rw [prodI_three]
  exact Int.mul_nonneg (Int.mul_nonneg (by omega) h0) (by omega)
theorem sum_le {l:Ly} {d:List Int} (hl:LayOk l) (hd:InOk d):∀ k i,i+k=(parD l d).length→sumP (parD l d) i≤sumP (parD l d) (parD l d).length
 | 0,i,hi=>by rw [show i=(parD l d).length by omega];exact Int.le_refl _
 | k+1,i,hi=>by
  have h5:=sum_le hl hd k (i+1) (by omega)
  have h6:=prod_par hl hd i (by omega)
  simp only [sumP] at h5
  omega
theorem layR_len {l:Ly} {d:List Int} (hl:LayOk l) (hd:InOk d) {rest:List Int} (h:psz l d≤(rest.length:Int)):((layR l d rest).length:Int)=(rest.length:Int) - psz l d:=by
 unfold layR
 rw [← sumP_psz] at h ⊢
 exact (prS_len (PP:=parD l d) (rest:=rest) _ (prod_par hl hd) (fun i hi=>Int.le_trans (sum_le hl hd ((parD l d).length - i) i (by omega)) h)).1
theorem cntP_le {d:List Int} {ls:List Ly} {S:List (List Int)} (ok:NetOk d ls S):∀ i,i≤ls.length→cntP ls S i≤cntP ls S ls.length:=by
 have key:∀ k i,i+k=ls.length→cntP ls S i≤cntP ls S ls.length:=by
  intro k
  induction k with
  | zero=>intro i hi;rw [show i=ls.length by omega];exact Int.le_refl _
  | succ k ih=>
   intro i hi
   have h1:=ih (i+1) (by omega)
   have h2:=psz_rng (ok.inn i (by omega)) (ok.lay i (by omega))
   simp only [cntP] at h1
   omega
 exact fun i hi=>key (ls.length - i) i (by omega)
theorem plF_rest {d:List Int} {ls:List Ly} {S:List (List Int)} {P X:List Int} (ok:NetOk d ls S) (hP:(P.length:Int)=cntP ls S ls.length):∀ i,i≤ls.length→((plF d ls S P X i).2.1.length:Int)=(P.length:Int) - cntP ls S i∧(i < ls.length→psz (lyA ls i) (shA S i)≤((plF d ls S P X i).2.1.length:Int))
 | 0,_=>by
  refine ⟨by simp [plF,cntP],fun h=>?_⟩
  have key:=cntP_le ok 1 (by omega)
  simp only [cntP] at key
  simp only [plF]
  omega
 | i+1,hi=>by
  obtain ⟨h1,h2⟩:=plF_rest (X:=X) ok hP i (by omega)
  have h3:=h2 (by omega)
  have h4:=layR_len (ok.lay i (by omega)) (ok.inn i (by omega)) h3
  have e:((plF d ls S P X (i+1)).2.1.length:Int)=(P.length:Int) - cntP ls S (i+1):=by
   simp only [plF,cntP]
   omega
  refine ⟨e,fun h=>?_⟩
  have key:=cntP_le ok (i+1+1) (by omega)
  rw [e]
  simp only [cntP] at key ⊢
  omega
theorem planOf_any (B:Nat) (d:List Int) (ls:List Ly) (S:List (List Int)) (ok:NetOk d ls S) (h16:ls.length≤16) (P X:List Int) (hPl:(P.length:Int)=cntP ls S ls.length) (hPb:P.length≤1073741824) (p p2 ps pp px:Option Addr) (n c n2 c2 ns cs np cp nx cx:Nat) (w:World) (hB:B≤w.heap.size) (hIn:Kept B w (.slice p n c) d) (hLy:∀ W',Rn B w W'→LyR 0 W' p2 n2 ls) (hSh:OwnS w 0 (.slice ps ns cs) S) (hns:S.length=ns) (hp:Kept B w (.slice pp np cp) P) (hpc:np≤cp) (hx:Kept B w (.slice px nx cx) X):
  Calls Tryz.prog 26 #[.agg #[.slice p n c,.slice p2 n2 c2],.slice ps ns cs,.slice pp np cp,.slice px nx cx] w fun e w'=>∃ q m r xs,e = .returned (.slice q m r)∧(plF d ls S P X ls.length).1.length=m∧w'.ownsRow B 104 7 (.slice q m r) m xs∧StsC B w' (plF d ls S P X ls.length).1 xs∧Rn B w w':=by
 haveI:Nonempty World:=⟨w⟩
 obtain ⟨F,eF⟩:∃ F,plF d ls S P X=F:=⟨_,rfl⟩
 have hfew:=plF_few d ls S P X
 have hrest:=plF_rest (P:=P) (X:=X) ok hPl
 have h0:F 0=([⟨1,0,0,0,d,X,false⟩],P,0,0):=by rw [← eF];rfl
 have hs:∀ i,F (i+1)=((F i).1++layS (lyA ls i) (shA S i) (F i).1.length (F i).2.1 (F i).2.2.1 (F i).2.2.2,layR (lyA ls i) (shA S i) (F i).2.1,(F i).2.2.2,(layN (lyA ls i) (shA S i) (F i).1.length:Int)):=fun i=>by rw [← eF];rfl
 rw [eF] at hfew hrest ⊢
 have HF:Hid (F 0=([⟨1,0,0,0,d,X,false⟩],P,0,0)∧(∀ i,F (i+1)=((F i).1++layS (lyA ls i) (shA S i) (F i).1.length (F i).2.1 (F i).2.2.1 (F i).2.2.2,layR (lyA ls i) (shA S i) (F i).2.1,(F i).2.2.2,(layN (lyA ls i) (shA S i) (F i).1.length:Int)))∧(∀ i,(F i).1.length≤1+6*i)∧(∀ i,i≤ls.length→((F i).2.1.length:Int)=(P.length:Int) - cntP ls S i∧(i < ls.length→psz (lyA ls i) (shA S i)≤((F i).2.1.length:Int)))):=⟨h0,hs,hfew,hrest⟩
 have hnp:P.length=np:=by
  obtain ⟨_,_,_,e,h⟩:=hp.nums.lst
  cases e
  exact h.out.1
 have hn2:ls.length=n2:=(hLy w (Rn.refl _ _)).1
 have HK:Hid (NetOk d ls S∧ls.length≤16∧Kept B w (.slice p n c) d∧(∀ W',Rn B w W'→LyR 0 W' p2 n2 ls)∧Kept B w (.slice pp np cp) P∧np≤cp∧Kept B w (.slice px nx cx) X∧P.length≤1073741824∧P.length=np∧ls.length=n2):=⟨ok,h16,hIn,hLy,hp,hpc,hx,hPb,hnp,hn2⟩
 have HSH:Hid (∀ j,j < ns→∃ q o a b d,ps=some ⟨q,o,none⟩∧(∀ W',Rn B w W'→W'.cell? ⟨q,o+j,none⟩=some (.slice a b d))∧Kept B w (.slice a b d) (shA S j)):=OwnS.dims hSh hns
 have hnsl:ns=n2+1:=by rw [← hns,ok.len,hn2]
 subst hnsl
 have h16':n2≤16:=by omega
 clear eF h0 hs hfew hrest hIn hLy hSh hns hp hpc hx hPb hPl ok h16 hnp hn2
 go_enter Tryz.func26,Tryz.ntmps26
 go_wp2_with fail
 generalize hW0:World.alloc _ _=W0
 have hz0:W0.heap.size=w.heap.size+2:=by rw [← hW0];simp
 have hB0:Below w.heap.size w W0:=by rw [← hW0];go_grown
 have hR0:Rn B w W0:=Rn.of hB hB0
 have HX0:Hid (W0.heap[w.heap.size]?=some (.cells #[.slice p n c,.slice p2 n2 c2] 26 (0,0))∧W0.heap[w.heap.size+1]?=some (.cells #[.slice none 0 0,.slice pp np cp] 101 (0,0))):=by
  show _∧_
  rw [← hW0]
  refine ⟨((up_alloc _ _).block _ (by simp)).trans Array.getElem?_push_size,?_⟩
  rw [show w.heap.size+1=(w.alloc (.cells #[.slice p n c,.slice p2 n2 c2] 26)).heap.size by simp]
  exact Array.getElem?_push_size
 have HP0:Hid (PlanO B W0 W0 (w.heap.size+1) [] P∧Rn B w W0):=⟨⟨by omega,Rn.refl _ _,_,_,_,_,_,_,[],HX0.out.2,⟨rfl,.inl ⟨rfl,rfl⟩⟩,rfl,StsC.nil _ _,HK.out.2.2.2.2.1.up hR0,HK.out.2.2.2.2.2.1,HK.out.2.2.2.2.2.2.2.2.1⟩,hR0⟩
 clear hW0 hB0 hR0
 refine (padd_any B (w.heap.size+1) [] P (by simp) ⟨1,0,0,0,d,X,false⟩ p n c px nx cx W0 W0 HP0.out.1 (HK.out.2.2.1.up HP0.out.2) (HK.out.2.2.2.2.2.2.1.up HP0.out.2)).mono ?_
 rintro e w1 ⟨rfl,hP1,hR1⟩
 have HI1:Hid (PlanO B w1 w1 (w.heap.size+1) (F 0).1 (F 0).2.1∧Rn B W0 w1):=by
  rw [HF.out.1]
  exact ⟨hP1.on,hR1⟩
 have HX1:Hid (w1.heap[w.heap.size]?=some (.cells #[.slice p n c,.slice p2 n2 c2] 26 (0,0))):=hR1.block HX0.out.1 (by decide)
 obtain ⟨_,⟨g1,_⟩⟩:=box_2 HX1.out
 clear hP1 hR1
 go_wp2_with fail
 go_loopg [10,11,27] n2 (fun gg u u2 v wr=>∃ (k:Nat),k≤n2∧gg=n2 - k∧u = .int .i64 (F k).2.2.1∧u2 = .int .i64 (F k).2.2.2∧v = .int .i64 (k:Int)∧Hid (PlanO B wr wr (w.heap.size+1) (F k).1 (F k).2.1∧Rn B w wr))
 case atStart=>exact ⟨0,by omega,by omega,by rw [HF.out.1],by rw [HF.out.1],rfl,HI1.out.1,HP0.out.2.trans HI1.out.2⟩
 case round=>
  obtain ⟨k,hk,hg,rfl,rfl,rfl,HI⟩:=hrel
  by_cases hkn:k < n2
  ·have hk':(k:Int) < (n2:Int):=by omega
   have hk1:(k:Int) < ((n2+1:Nat):Int):=by omega
   have hkl:k < ls.length:=by rw [HK.out.2.2.2.2.2.2.2.2.2];exact hkn
   obtain ⟨q,o,rfl,y0,y1,y2⟩:=(HK.out.2.2.2.1 wr HI.out.2).2 k hkn
   obtain ⟨q3,o3,a3,b3,d3,rfl,hc3,hk3⟩:=HSH.out k (by omega)
   have s3:=hc3 wr HI.out.2
   have hs1:=HF.out.2.1 k
   have hs2:=HF.out.2.2.1 k
   have hs3:=HF.out.2.2.2 k (by omega)
   obtain ⟨l,el⟩:∃ l,lyA ls k=l:=⟨_,rfl⟩
   have hlo:=HK.out.1.lay k hkl
   have hft:=HK.out.1.fit k hkl
   have hin:=HK.out.1.inn k hkl
   rw [el] at y0 y1 y2 hlo hft hs1 hs3
   obtain ⟨s,a,b⟩:=l
   simp only [] at y0 y1 y2 hft
   obtain ⟨N,eN⟩:∃ N,(F k).1.length=N:=⟨_,rfl⟩
   obtain ⟨bf,ebf⟩:∃ x,(F k).2.2.1=x:=⟨_,rfl⟩
   obtain ⟨la,ela⟩:∃ x,(F k).2.2.2=x:=⟨_,rfl⟩
   rw [eN,ebf,ela] at hs1
   rw [eN] at hs2
   rw [ebf,ela]
   have cL:Hid (∀ W,Below wr.heap.size wr W→Calls Tryz.prog 45 #[.pointer (some ⟨w.heap.size+1,0,none⟩),.agg #[.string s,.int .i64 a,.int .i64 b],.slice a3 b3 d3,.int .i64 bf,.int .i64 la] W fun e w'=>e = .returned (.int .i64 (F (k+1)).2.2.2)∧PlanO B w' w' (w.heap.size+1) (F (k+1)).1 (F (k+1)).2.1∧Rn B W w'):=fun W hW=>by
    have hR:Rn B w W:=HI.out.2.trans (Rn.of HI.out.1.size hW)
    have:=layer_any B (w.heap.size+1) N (F k).1 (F k).2.1 eN (by omega) s a b hlo (shA S k) hin hft (hs3.2 hkl) (by have h7:=hs3.1;have h8:=cntP_rng (ls:=ls) (S:=S) (i:=k) (fun j hj=>HK.out.1.inn j (by omega)) (fun j hj=>HK.out.1.lay j (by omega));have h9:=HK.out.2.2.2.2.2.2.2.1;omega) a3 b3 d3 bf la W (HI.out.1.up hW).on (hk3.up hR)
    rw [hs1]
    exact this
   have HS1:Hid ((F (k+1)).2.2.1=la):=by show _=_;rw [hs1]
   have hlt:=cell_size y0
   have hz3:=cell_size s3
   clear hs1 hs2 hs3 hlo hft hin hc3 hk3 el eN ebf ela
   go_wp2
   generalize hW2:World.alloc _ _=W2
   have HB2:Hid (Below wr.heap.size wr W2):=by rw [← hW2];exact up_alloc wr _
   obtain ⟨e0,e1,e2⟩:W2.cell? ⟨wr.heap.size,0,none⟩=some (.string s)∧W2.cell? ⟨wr.heap.size,1,none⟩=some (.int .i64 a)∧W2.cell? ⟨wr.heap.size,2,none⟩=some (.int .i64 b):=by rw [← hW2];simp [go_sem]
   replace s3:=still_cell HB2.out s3
   have hz4:=cell_size e0
   have hz5:=cell_size s3
   clear hW2 y0 y1 y2
   refine relE [] 9 47 (by kernel_rfl) rfl rfl 0 _ rfl (by decide) rfl (by kernel_rfl) (by kernel_rfl) (fun _ _ _ _ h=>h) (by rfl) ?_ ?_
   ·intro e he;simp at he
   apply Exists.intro
   refine ⟨?yl1,?wk1,?pk1,?rest1⟩
   case wk1=>
    intro x
    simp only [List.take_succ_cons,List.take_zero]
    iterate 9
     refine relQuiet rfl rfl ?_
     apply Exists.intro
     refine ⟨fun F hF hf K hK=>?_,?_⟩
     ·have hFc:=hF.cell
      have hFf:=hF.frozen
      go_big_quiet_op
      first|exact hK|(apply Exists.intro;refine ⟨fun _=>?_,?_⟩;(· fail);exact hK)
     (try simp only [Act.put,List.setIfInBounds_toArray,List.set_cons_zero,List.set_cons_succ])
    refine relEnd ?_
    exact rfl
   case pk1=>
    intro x
    simp only [putsK,List.foldl_cons,List.foldl_nil,Act.put,List.setIfInBounds_toArray,List.set_cons_zero,List.set_cons_succ]
   case yl1=>
    intro x hx
    have e9:True:=trivial
    refine ⟨.int .i64 la,fun t ht=>?_,.inl ⟨by rfl,fun w=>?_⟩⟩
    ·cases ht
     rfl
    ·simp [execOp,Act.eval,e9,go_sem]
   intro w9 xs hB9 hf
   simp only [List.drop_succ_cons,List.drop_zero]
   have HB9:Hid (Below wr.heap.size wr w9):=bstep HB2.out hB9
   clear hf hB9 e0 e1 e2 s3 hz5
   go_wp2_with fail
   refine (cL.out w9 HB9.out).mono ?_
   rintro e w2 ⟨rfl,hP2,hR2⟩
   have HI2:Hid (PlanO B w2 w2 (w.heap.size+1) (F (k+1)).1 (F (k+1)).2.1∧Rn B w w2):=⟨hP2,(HI.out.2.trans (Rn.of HI.out.1.size HB9.out)).trans hR2⟩
   clear hP2 hR2 cL HI HB9 HB2
   go_wp2
   go_roundg (n2 - (k+1))
   case measure=>omega
   case rel=>exact ⟨k+1,by omega,rfl,by rw [HS1.out],rfl,by first|rfl|simp,HI2⟩
  ·obtain rfl:k=n2:=by omega
   have hl2:=HK.out.2.2.2.2.2.2.2.2.2
   obtain ⟨hb,hr,q,m,r,pR,nR,cR,xs,h1,h3,h4,h5,_⟩:=HI.out.1
   obtain ⟨⟨x0,_⟩,_⟩:=box_2 h1
   have HE:Hid ((F ls.length).1.length=m∧wr.ownsRow B 104 7 (.slice q m r) m xs∧StsC B wr (F ls.length).1 xs∧Rn B w wr):=by
    rw [hl2]
    exact ⟨h4,by rw [h4] at h3;exact h3,h5,HI.out.2⟩
   clear hb hr h1 h3 h4 h5 hl2
   go_wp2
   go_ret
   exact ⟨_,_,_,_,rfl,HE.out⟩
end Go.Proofs.YtihjnbbhpojnpaaGreatDoor.Wd
