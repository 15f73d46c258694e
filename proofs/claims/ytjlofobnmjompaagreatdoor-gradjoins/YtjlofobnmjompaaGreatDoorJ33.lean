/- The code's Do, whatever it is asked. · The code's tape: Len. · The code's lay: one step of a plan on the tape. · The code's plans: param, dense. · The code's plans: dense, layer. -/
import Derived.Test.YtjlofobnmjompaaGreatDoorJ25
import Derived.Test.YtjlofobnmjompaaGreatDoorJ31
import Derived.Test.YtjlofobnmjompaaGreatDoorJ32
import Derived.Test.YtjlofobnmjompaaGreatDoorJ18
import Derived.Test.YtjlofobnmjompaaGreatDoorJ29
set_option linter.unusedVariables false
set_option linter.unusedSimpArgs false
set_option maxHeartbeats 16000000
set_option maxRecDepth 16000
namespace Go.Proofs.YtjlofobnmjompaaGreatDoor.Wd
open Go.RowKit Fx
theorem rk_k {op:Int} (h:¬ byP op) (D X D' X':List Int) (k:Int):rkE op D X D' X' k=rkE op D X D' X' 0∧rkD op D X D' X' k=rkD op D X D' X' 0∧rkV op D X D' X' k=rkV op D X D' X' 0:=by
 have n5:op≠5:=fun e=>h (.inl e)
 have n8:op≠8:=fun e=>h (.inr (.inl e))
 have n11:op≠11:=fun e=>h (.inr (.inr (.inl e)))
 have n12:op≠12:=fun e=>h (.inr (.inr (.inr (.inl e))))
 have n13:op≠13:=fun e=>h (.inr (.inr (.inr (.inr e))))
 unfold rkE rkD rkV
 simp only [if_neg n5,if_neg n8,if_neg n11,if_neg n12,if_neg n13]
 exact ⟨trivial,trivial,trivial⟩
theorem cdo_full (B tb:Nat) (ns:List Nd) (hG:NodesG ns) (op a b k:Int) (hk:InR op∧InR a∧InR b∧InR k) (w:World) (hT:TapC w B tb ns) (hfull:512≤ns.length):
  Calls Tryz.prog 83 #[.pointer (some ⟨tb,0,none⟩),.int .i64 op,.int .i64 a,.int .i64 b,.int .i64 k] w fun e w'=>e = .returned (.tuple #[.int .i64 (doR ns op a b k),.int .i64 (doE ns op a b k)])∧TapC w' B tb (doN ns op a b k)∧Below B w w'∧Only SC w w'∧Spar2 tb w w':=by
 have hTT:Hid (TapC w B tb ns):=hT
 have hf:decide (512≤ns.length)=true:=decide_eq_true hfull
 have e1:doE ns op a b k=2:=if_pos hfull
 have e2:doR ns op a b k=0:=if_neg fun h=>by have:=h.1.1;omega
 have e3:doN ns op a b k=ns:=if_neg fun h=>by have:=h.1.1;omega
 rw [e1,e2,e3]
 clear e1 e2 e3 hfull hT hk
 go_enter Tryz.func83,Tryz.ntmps83
 go_wp2_with fail
 refine (cfull_any B tb ns true hf w hTT.out).mono ?_
 rintro e w9 ⟨rfl,ew9⟩
 have ew:=ew9.symm
 subst ew
 clear ew9
 clear hf
 go_wp2
 exact bodyPost_ret (v:=.tuple #[.int .i64 0,.int .i64 2]) (by simp [results,Tryz.results83,go_sem]) rfl ⟨rfl,hTT.out,Below.refl _ _,Only.refl _ _,Spar2.of (Below.refl _ _)⟩
theorem cdo_bad (B tb:Nat) (ns:List Nd) (hG:NodesG ns) (op a b k:Int) (hk:InR op∧InR a∧InR b∧InR k) (w:World) (hT:TapC w B tb ns) (hroom:ns.length < 512) (hno:¬ ((0≤a∧a < (ns.length:Int))∧(twoP op→0≤b∧b < (ns.length:Int)))):
  Calls Tryz.prog 83 #[.pointer (some ⟨tb,0,none⟩),.int .i64 op,.int .i64 a,.int .i64 b,.int .i64 k] w fun e w'=>e = .returned (.tuple #[.int .i64 (doR ns op a b k),.int .i64 (doE ns op a b k)])∧TapC w' B tb (doN ns op a b k)∧Below B w w'∧Only SC w w'∧Spar2 tb w w':=by
 have hTT:Hid (TapC w B tb ns):=hT
 have hf:decide (512≤ns.length)=false:=decide_eq_false (by omega)
 have ho:¬ okD ns op a b:=fun h=>hno h.2
 have e1:doE ns op a b k=1:=(if_neg (by omega)).trans (if_neg ho)
 have e2:doR ns op a b k=0:=if_neg fun h=>ho h.1.2
 have e3:doN ns op a b k=ns:=if_neg fun h=>ho h.1.2
 rw [e1,e2,e3]
 clear e1 e2 e3 hT hk ho hroom
 by_cases ha:0≤a∧a < (ns.length:Int)
 ·have h2:twoP op∧¬ (0≤b∧b < (ns.length:Int)):=by
   by_cases h2:twoP op
   ·exact ⟨h2,fun hb=>hno ⟨ha,fun _=>hb⟩⟩
   ·exact absurd ⟨ha,fun h=>absurd h h2⟩ hno
  have hq:decide (twoP op)=true:=decide_eq_true h2.1
  have hb:decide (0≤b∧b < (ns.length:Int))=false:=decide_eq_false h2.2
  have ha':decide (0≤a∧a < (ns.length:Int))=true:=decide_eq_true ha
  clear h2 ha hno
  go_enter Tryz.func83,Tryz.ntmps83
  go_wp2_with fail
  refine (cfull_any B tb ns false hf w hTT.out).mono ?_
  rintro e w9 ⟨rfl,ew9⟩
  have ew:=ew9.symm
  subst ew
  clear ew9
  go_wp2_with fail
  refine (chas_any B tb ns a true ha' w hTT.out).mono ?_
  rintro e w9 ⟨rfl,ew9⟩
  have ew:=ew9.symm
  subst ew
  clear ew9
  go_wp2_with fail
  refine (chasb_any op true hq w).mono ?_
  rintro e w9 ⟨rfl,ew9⟩
  have ew:=ew9.symm
  subst ew
  clear ew9
  go_wp2_with fail
  refine (chas_any B tb ns b false hb w hTT.out).mono ?_
  rintro e w9 ⟨rfl,ew9⟩
  have ew:=ew9.symm
  subst ew
  clear ew9
  clear hf hq hb ha'
  go_wp2
  exact bodyPost_ret (v:=.tuple #[.int .i64 0,.int .i64 1]) (by simp [results,Tryz.results83,go_sem]) rfl ⟨rfl,hTT.out,Below.refl _ _,Only.refl _ _,Spar2.of (Below.refl _ _)⟩
 ·have ha':decide (0≤a∧a < (ns.length:Int))=false:=decide_eq_false ha
  clear ha hno
  go_enter Tryz.func83,Tryz.ntmps83
  go_wp2_with fail
  refine (cfull_any B tb ns false hf w hTT.out).mono ?_
  rintro e w9 ⟨rfl,ew9⟩
  have ew:=ew9.symm
  subst ew
  clear ew9
  go_wp2_with fail
  refine (chas_any B tb ns a false ha' w hTT.out).mono ?_
  rintro e w9 ⟨rfl,ew9⟩
  have ew:=ew9.symm
  subst ew
  clear ew9
  clear hf ha'
  go_wp2
  exact bodyPost_ret (v:=.tuple #[.int .i64 0,.int .i64 1]) (by simp [results,Tryz.results83,go_sem]) rfl ⟨rfl,hTT.out,Below.refl _ _,Only.refl _ _,Spar2.of (Below.refl _ _)⟩
theorem cdo_sp (B tb:Nat) (ns:List Nd) (hG:NodesG ns) (op a b k:Int) (hRk:RkC op) (hk:InR op∧InR a∧InR b∧InR k) (w:World) (hT:TapC w B tb ns) (hTz:Hid (Tz w)):
  Calls Tryz.prog 83 #[.pointer (some ⟨tb,0,none⟩),.int .i64 op,.int .i64 a,.int .i64 b,.int .i64 k] w fun e w'=>e = .returned (.tuple #[.int .i64 (doR ns op a b k),.int .i64 (doE ns op a b k)])∧TapC w' B tb (doN ns op a b k)∧Below B w w'∧Only SC w w'∧Spar2 tb w w':=by
 by_cases hf:512≤ns.length
 ·exact cdo_full B tb ns hG op a b k hk w hT hf
 by_cases hno:(0≤a∧a < (ns.length:Int))∧(twoP op→0≤b∧b < (ns.length:Int))
 case neg=>exact cdo_bad B tb ns hG op a b k hk w hT (by omega) hno
 obtain ⟨ai,rfl⟩:∃ i:Nat,a=i:=⟨a.toNat,by have:=hno.1;omega⟩
 have hai:ai < ns.length:=by have:=hno.1;omega
 obtain ⟨nda,hnda⟩:∃ nd,ns[ai]?=some nd:=⟨_,List.getElem?_eq_getElem hai⟩
 have hga:TnsG nda.D nda.X:=hG nda (nd_mem hnda)
 have ena:=nd_at hnda
 obtain ⟨E,eE⟩:∃ E,rqE op nda.D nda.X (dD ns op b) (dX ns op b) k=E:=⟨_,rfl⟩
 obtain ⟨D,eD⟩:∃ E,rqD op nda.D nda.X (dD ns op b) (dX ns op b) k=E:=⟨_,rfl⟩
 obtain ⟨V,eV⟩:∃ E,rqV op nda.D nda.X (dD ns op b) (dX ns op b) k=E:=⟨_,rfl⟩
 have hkk:rkE op nda.D nda.X (dD ns op b) (dX ns op b) k=rkE op nda.D nda.X (dD ns op b) (dX ns op b) (dK op k)∧rkD op nda.D nda.X (dD ns op b) (dX ns op b) k=rkD op nda.D nda.X (dD ns op b) (dX ns op b) (dK op k)∧rkV op nda.D nda.X (dD ns op b) (dX ns op b) k=rkV op nda.D nda.X (dD ns op b) (dX ns op b) (dK op k):=by
  unfold dK
  by_cases h:byP op
  ·rw [if_pos h];exact ⟨rfl,rfl,rfl⟩
  ·rw [if_neg h];exact rk_k h _ _ _ _ _
 have hE1:doE ns op (ai:Int) b k=E:=by
  refine (if_neg (by omega)).trans ?_
  rw [← eE]
  unfold rqE
  by_cases ho:2≤op∧op≤14
  ·rw [if_pos ho,if_pos ⟨ho,hno⟩]
   unfold dE
   rw [ena,hkk.1]
  ·rw [if_neg ho,if_neg fun h=>ho h.1]
 have hEok:E=0→2≤op∧op≤14:=fun h=>by
  by_cases ho:2≤op∧op≤14
  ·exact ho
  ·rw [← eE] at h
   unfold rqE at h
   rw [if_neg ho] at h
   cases h
 rw [hE1]
 obtain ⟨RR,eR⟩:∃ R,doR ns op (ai:Int) b k=R:=⟨_,rfl⟩
 obtain ⟨NS,eS⟩:∃ R,doN ns op (ai:Int) b k=R:=⟨_,rfl⟩
 rw [eR,eS]
 have HG0:(E=0→RR=(ns.length:Int)∧NS=ns++[⟨op,(ai:Int),dB op b,dK op k,D,V⟩])∧(E≠0→RR=0∧NS=ns):=by
  rw [← eR,← eS]
  refine ⟨fun h=>?_,fun h=>?_⟩
  ·have ho:=hEok h
   have hP:doP ns op (ai:Int) b k:=⟨⟨by omega,ho,hno⟩,by rw [← hE1] at h;unfold doE at h;rw [if_neg hf,if_pos ⟨ho,hno⟩] at h;exact h⟩
   refine ⟨if_pos hP,(if_pos hP).trans ?_⟩
   unfold dN
   rw [ena,← hkk.2.1,← hkk.2.2,← eD,← eV]
   unfold rqD rqV
   rw [if_pos ho,if_pos ho]
  ·have hP:¬ doP ns op (ai:Int) b k:=fun h'=>h (by
    have h2:=hE1
    unfold doE at h2
    rw [if_neg hf,if_pos h'.1.2] at h2
    rw [← h2]
    exact h'.2)
   exact ⟨if_neg hP,if_neg hP⟩
 have hroom:ns.length < 512:=by omega
 have hgb:RI (dD ns op b)∧RI (dX ns op b):=by
  unfold dD dX
  by_cases h2:twoP op
  ·rw [if_pos h2,if_pos h2]
   exact (hG.at (hno.2 h2).1 (hno.2 h2).2).2
  ·rw [if_neg h2,if_neg h2]
   exact ⟨fun y hy=>by simp at hy,fun y hy=>by simp at hy⟩
 refine cdo_ok B tb ns op ai b k nda hnda (dD ns op b) (dX ns op b) (dB op b) (dK op k) ?_ ?_ hroom E D V RR NS HG0 w hT ?_
 ·by_cases h2:twoP op
  ·have hb:=hno.2 h2
   obtain ⟨bi,rfl⟩:∃ i:Nat,b=i:=⟨b.toNat,by omega⟩
   obtain ⟨ndb,hndb⟩:∃ nd,ns[bi]?=some nd:=⟨_,List.getElem?_eq_getElem (by omega)⟩
   have enb:=nd_at hndb
   exact .inl ⟨h2,if_pos h2,bi,ndb,rfl,hndb,(if_pos h2).trans (by rw [enb]),(if_pos h2).trans (by rw [enb])⟩
  ·exact .inr ⟨h2,if_neg h2,if_neg h2,if_neg h2⟩
 ·by_cases h3:byP op
  ·exact .inl ⟨h3,if_pos h3⟩
  ·exact .inr ⟨h3,if_neg h3⟩
 intro W pA qA pB qB nA cA mA eA nB cB mB eB hW g1 g2 g3 g4 g5
 rw [← eE,← eD,← eV]
 exact hRk pA qA pB qB nA cA mA eA nB cB mB eB _ _ _ _ k hk.2.2.2 hga hgb.1 hgb.2 g3 W (Hid.up_tz hTz hW) g1 g2 g4 g5
theorem clen_any (B tb:Nat) (ns:List Nd) (w:World) (hT:TapC w B tb ns):Calls Tryz.prog 40 #[.pointer (some ⟨tb,0,none⟩)] w fun e w'=>e = .returned (.int .i64 (ns.length:Int))∧w'=w:=by
 have hTT:Hid (TapC w B tb ns):=hT
 obtain ⟨pL,cL,xs0,hv,ho,hn0,hnc⟩:=Tap.head hT
 obtain ⟨N,eN⟩:∃ N,ns.length=N:=⟨_,rfl⟩
 rw [eN] at hv ho hnc
 have hcell:=(head_cell hv).1
 have hz:=heap_lt hv
 rw [eN]
 clear hT hTT hv ho hn0 hnc eN
 go_enter Tryz.func40,Tryz.ntmps40
 go_wp2
 go_ret
 exact ⟨rfl,rfl⟩
/-- What one step makes of the nodes: an error, its number, the nodes. -/
def stE (f:Int) (ns:List Nd) (st:Sp):Int:=if st.op=1 then leafE ns st.D st.X else doE ns st.op (f+st.a) (f+st.b) st.k
def stR (f:Int) (ns:List Nd) (st:Sp):Int:=if st.op=1 then leafR ns st.D st.X else doR ns st.op (f+st.a) (f+st.b) st.k
def stN (f:Int) (ns:List Nd) (st:Sp):List Nd:=if st.op=1 then leafN ns st.D st.X else doN ns st.op (f+st.a) (f+st.b) st.k
/-- A step that a plan may hold. -/
structure SpOk (st:Sp):Prop where
 ra:0≤st.a∧st.a≤1000
 rb:0≤st.b∧st.b≤1000
 rk:0≤st.k∧st.k≤1000
 rop:1≤st.op∧st.op≤14
 rD:RI st.D
 rX:RI st.X
theorem lay_any (B tb:Nat) (ns:List Nd) (hG:NodesG ns) (st:Sp) (hok:SpOk st) (hRk:st.op≠1→RkC st.op) (f:Int) (hf:0≤f∧f≤1000) (p:Option Addr) (n c:Nat) (p2:Option Addr) (n2 c2:Nat) (w:World) (hT:TapC w B tb ns) (hTz:Hid (Tz w)) (h1:Nums .i64 w (.slice p n c) st.D) (h2:Nums .i64 w (.slice p2 n2 c2) st.X):
  Calls Tryz.prog 61 #[.pointer (some ⟨tb,0,none⟩),.agg #[.int .i64 st.op,.int .i64 st.a,.int .i64 st.b,.int .i64 st.k,.slice p n c,.slice p2 n2 c2,.bool st.par],.int .i64 f] w fun e w'=>e = .returned (.tuple #[.int .i64 (stR f ns st),.int .i64 (stE f ns st)])∧TapC w' B tb (stN f ns st)∧Below B w w'∧Only SC w w'∧Spar2 tb w w':=by
 obtain ⟨op,a,b,k,D,X,par⟩:=st
 obtain ⟨ra,rb,rk,rop,rD,rX⟩:=hok
 simp only [] at ra rb rk rop rD rX h1 h2 hRk ⊢
 obtain ⟨R,eR⟩:∃ R,stR f ns ⟨op,a,b,k,D,X,par⟩=R:=⟨_,rfl⟩
 obtain ⟨E,eE⟩:∃ R,stE f ns ⟨op,a,b,k,D,X,par⟩=R:=⟨_,rfl⟩
 obtain ⟨NS,eN⟩:∃ R,stN f ns ⟨op,a,b,k,D,X,par⟩=R:=⟨_,rfl⟩
 rw [eR,eE,eN]
 have hzB:B≤w.heap.size:=by
  obtain ⟨hb,v,xs,hv,_⟩:=hT
  exact Nat.le_trans hb (Nat.le_of_lt (heap_lt hv))
 have HZ:Hid (B≤w.heap.size):=hzB
 by_cases h0:op=1
 ·subst h0
  have cl:Hid (∀ W,Below w.heap.size w W→Calls Tryz.prog 82 #[.pointer (some ⟨tb,0,none⟩),.agg #[.slice p n c,.slice p2 n2 c2]] W fun e w'=>e = .returned (.tuple #[.int .i64 R,.int .i64 E])∧TapC w' B tb NS∧Below B W w'∧Only SC W w'∧Spar2 tb W w'):=fun W hW=>by
   have:=cleaf_sp B tb ns hG p p2 n c n2 c2 D X rD rX W (hT.up hW) (h1.up hW) (h2.up hW)
   rw [← eR,← eE,← eN]
   exact this
  clear eR eE eN hT h1 h2 hRk rD rX hzB
  go_enter Tryz.func61,Tryz.ntmps61
  go_wp2_with fail
  generalize hW0:World.alloc _ _=W0
  have HB0:Hid (Below w.heap.size w W0):=by rw [← hW0];exact up_alloc w _
  clear hW0
  refine (cl.out W0 HB0.out).mono ?_
  rintro e w1 ⟨rfl,hT1,hB1,hO1,hS1⟩
  have HF:Hid (TapC w1 B tb NS∧Below B w w1∧Only SC w w1∧Spar2 tb w w1):=⟨hT1,(HB0.out.mono HZ.out).trans hB1,(Only.of HB0.out).trans hO1,Spar2.trans (Spar2.of HB0.out) hS1 HB0.out.size⟩
  clear hT1 hB1 hO1 hS1 cl
  go_wp2
  go_ret2
  exact ⟨rfl,HF.out⟩
 ·have h0':(op==1)=false:=by simpa using h0
  obtain ⟨fa,efa⟩:∃ x,f+a=x:=⟨_,rfl⟩
  obtain ⟨fb,efb⟩:∃ x,f+b=x:=⟨_,rfl⟩
  have cd:Hid (∀ W,Below w.heap.size w W→Calls Tryz.prog 83 #[.pointer (some ⟨tb,0,none⟩),.int .i64 op,.int .i64 fa,.int .i64 fb,.int .i64 k] W fun e w'=>e = .returned (.tuple #[.int .i64 R,.int .i64 E])∧TapC w' B tb NS∧Below B W w'∧Only SC W w'∧Spar2 tb W w'):=fun W hW=>by
   have:=cdo_sp B tb ns hG op fa fb k (hRk h0) (by unfold InR;omega) W (hT.up hW) (Hid.up_tz hTz hW)
   rw [← eR,← eE,← eN]
   unfold stR stE stN
   simp only [if_neg h0]
   rw [efa,efb]
   exact this
  have hfa:0≤fa∧fa≤2000:=by omega
  have hfb:0≤fb∧fb≤2000:=by omega
  clear eR eE eN hT h1 h2 hRk rD rX hzB
  go_enter Tryz.func61,Tryz.ntmps61
  go_wp2_with fail
  generalize hW0:World.alloc _ _=W0
  have HB0:Hid (Below w.heap.size w W0):=by rw [← hW0];exact up_alloc w _
  clear hW0
  refine (cd.out W0 HB0.out).mono ?_
  rintro e w1 ⟨rfl,hT1,hB1,hO1,hS1⟩
  have HF:Hid (TapC w1 B tb NS∧Below B w w1∧Only SC w w1∧Spar2 tb w w1):=⟨hT1,(HB0.out.mono HZ.out).trans hB1,(Only.of HB0.out).trans hO1,Spar2.trans (Spar2.of HB0.out) hS1 HB0.out.size⟩
  clear hT1 hB1 hO1 hS1 cd
  go_wp2
  go_ret2
  exact ⟨rfl,HF.out⟩
end Go.Proofs.YtjlofobnmjompaaGreatDoor.Wd
namespace Go.Proofs.YtjlofobnmjompaaGreatDoor.Wd
open Go.RowKit
theorem Kept.none (B:Nat) (W:World):Kept B W (.slice none 0 0) []:=fun _ _=>.inl ⟨rfl,rfl⟩
theorem Kept.cut {B:Nat} {W:World} {p:Option Addr} {n c i j:Nat} {l:List Int} (h:Kept B W (.slice p n c) l) (hij:i≤j) (hj:j≤n) (hl:l.length=n) (hn:n≤c):Kept B W (sliced p i j c 1) ((l.drop i).take (j - i)):=fun W' hR=>cut_nums hij hj hl hn (h W' hR)
theorem param_any (B pb:Nat) (sts:List Sp) (rest:List Int) (hfew:sts.length≤200) (d:List Int) (hsm:Smal d) (m:Nat) (hm:prodI d=(m:Int)) (hmr:m≤rest.length) (hrest:rest.length≤1073741824) (p:Option Addr) (n c:Nat) (wa w:World) (hP:PlanO B wa w pb sts rest) (h1:Kept B wa (.slice p n c) d):
  Calls Tryz.prog 80 #[.pointer (some ⟨pb,0,none⟩),.slice p n c] w fun e w'=>e = .returned (.int .i64 (sts.length:Int))∧PlanO B wa w' pb (sts++[⟨1,0,0,0,d,rest.take m,true⟩]) (rest.drop m)∧Rn B w w':=by
 have HP:Hid (PlanO B wa w pb sts rest):=hP
 obtain ⟨hBp,hra,pS,nS',cS,pR,nR,cR,xs,hb,ho,hn,hc,hk,hrc,hrl⟩:=hP
 have hzB:B≤w.heap.size:=Nat.le_trans hBp (Nat.le_of_lt (heap_lt hb))
 have cs:=csize_any _ d hsm w (h1 w hra.r4)
 rw [hm] at cs
 obtain ⟨N,eN⟩:∃ N,sts.length=N:=⟨_,rfl⟩
 have HN:Hid (sts.length=N∧N≤200):=⟨eN,by omega⟩
 rw [eN] at ho hn ⊢
 subst hn
 obtain ⟨⟨x0,y0⟩,⟨x1,y1⟩⟩:=box_2 hb
 have hcutH:=cutF_h pR nR cR m (by omega)
 have hcutL:=cutF_l pR nR cR m (by omega)
 obtain ⟨qh,eqh⟩:=sliced_is pR 0 m cR
 obtain ⟨ql,eql⟩:=sliced_is pR m nR cR
 have kh:=hk.cut (Nat.zero_le m) (by omega) hrl hrc
 have kl:=hk.cut (show m≤nR by omega) (Nat.le_refl _) hrl hrc
 rw [List.drop_zero,Nat.sub_zero] at kh
 rw [List.take_of_length_le (by rw [List.length_drop];omega)] at kl
 rw [eqh] at hcutH kh
 rw [eql] at hcutL kl
 simp only [Nat.sub_zero] at hcutH kh
 have HK:Hid (Kept B wa (.slice qh m cR) (rest.take m)∧Kept B wa (.slice ql (nR - m) (cR - m)) (rest.drop m)∧Kept B wa (.slice p n c) d):=⟨kh,kl,h1⟩
 have HW:Hid (B≤pb∧B≤w.heap.size∧w.heap[pb]?=some (.cells #[.slice pS N cS,.slice pR nR cR] 126 (0,0))∧w.ownsRow B 129 7 (.slice pS N cS) N xs∧StsC B wa sts xs∧(rest.drop m).length=nR - m∧nR - m≤cR - m∧Rn B wa w):=⟨hBp,hzB,hb,ho,hc,by rw [List.length_drop];omega,by omega,hra⟩
 have hzp:=cell_size x0
 clear hBp hb ho hc hk hrc hrl hzB kh kl h1 hra eqh eql hm hmr hrest hfew hsm eN
 go_enter Tryz.func80,Tryz.ntmps80
 go_wp2_with fail
 refine cs.mono ?_
 rintro e w1 ⟨rfl,rfl⟩
 clear cs
 have HV:Hid (PlanO B wa ((w1.setCell ⟨pb,1,none⟩ (.slice ql (nR - m) (cR - m))).alloc (.cells #[.slice p n c,.slice qh m cR] 64)) pb sts (rest.drop m)∧Rn B w1 ((w1.setCell ⟨pb,1,none⟩ (.slice ql (nR - m) (cR - m))).alloc (.cells #[.slice p n c,.slice qh m cR] 64))):=by
  obtain ⟨h1,h2,h3,h4,h5,h6,h7,h8⟩:=HW.out
  have hR:Rn B w1 (w1.setCell ⟨pb,1,none⟩ (.slice ql (nR - m) (cR - m))):=⟨(Below.refl _ _).setCell (p:=⟨pb,1,none⟩) h1 _,Only.set h3 (by simp)⟩
  have hv:(w1.setCell ⟨pb,1,none⟩ (.slice ql (nR - m) (cR - m))).heap[pb]?=some (.cells #[.slice pS N cS,.slice ql (nR - m) (cR - m)] 126 (0,0)):=by
   rw [heap_setat h3]
   rfl
  have hP1:PlanO B wa (w1.setCell ⟨pb,1,none⟩ (.slice ql (nR - m) (cR - m))) pb sts (rest.drop m):=⟨h1,h8.trans hR,_,_,_,_,_,_,_,hv,by rw [HN.out.1];exact owns_only (S:=[126]) h4 (Only.set h3 (by simp)) (by decide),HN.out.1,h5,HK.out.2.1,h7,h6⟩
  exact ⟨hP1.up (up_alloc _ _),hR.trans (Rn.of (Nat.le_trans h2 hR.size) (up_alloc _ _))⟩
 go_wp2_with fail
 have ca:=padd_any B pb sts (rest.drop m) (by rw [HN.out.1];exact HN.out.2) ⟨1,0,0,0,d,rest.take m,true⟩ p n c qh m cR wa _ HV.out.1 HK.out.2.2 HK.out.1
 rw [HN.out.1] at ca
 refine ca.mono ?_
 rintro e w2 ⟨rfl,hP2,hR2⟩
 have HF:Hid (PlanO B wa w2 pb (sts++[⟨1,0,0,0,d,rest.take m,true⟩]) (rest.drop m)∧Rn B w1 w2):=⟨hP2,HV.out.2.trans hR2⟩
 clear ca hP2 hR2 HV x0 x1 y0 y1
 go_wp2
 go_ret
 exact ⟨rfl,HF.out⟩
/-- A step that is no Leaf. -/
abbrev spD (op a b k:Int):Sp:=⟨op,a,b,k,[],[],false⟩
theorem padd_do (B pb N:Nat) (sts:List Sp) (rest:List Int) (hN:sts.length=N) (hfew:N≤200) (op a b k:Int) (wa w:World) (hP:PlanO B wa w pb sts rest):
  Calls Tryz.prog 59 #[.pointer (some ⟨pb,0,none⟩),.agg #[.int .i64 op,.int .i64 a,.int .i64 b,.int .i64 k,.slice none 0 0,.slice none 0 0,.bool false]] w fun e w'=>e = .returned (.int .i64 (N:Int))∧Hid (PlanO B wa w' pb (sts++[spD op a b k]) rest∧(sts++[spD op a b k]).length=N+1∧Rn B w w'):=by
 subst hN
 refine (padd_any B pb sts rest hfew (spD op a b k) none 0 0 none 0 0 wa w hP (Kept.none _ _) (Kept.none _ _)).mono ?_
 rintro e w' ⟨h1,h2,h3⟩
 exact ⟨h1,h2,by simp,h3⟩
/-- What dense lays: its steps, and the last one's number. -/
def denS (two:Bool) (N:Nat) (m r l:Int):List Sp:=if two then [spD 14 l 0 0,spD 4 m (N:Int) 0,spD 8 ((N+1:Nat):Int) 0 1,spD 2 ((N+2:Nat):Int) r 0] else [spD 4 m l 0,spD 8 (N:Int) 0 1,spD 2 ((N+1:Nat):Int) r 0]
def denN (two:Bool) (N:Nat):Nat:=if two then N+3 else N+2
theorem dense_any (B pb N:Nat) (sts:List Sp) (rest:List Int) (hN:sts.length=N) (hfew:N≤190) (m r l:Int) (p:Option Addr) (n c:Nat) (wa w:World) (hP:PlanO B wa w pb sts rest):
  Calls Tryz.prog 81 #[.pointer (some ⟨pb,0,none⟩),.int .i64 m,.int .i64 r,.slice p n c,.int .i64 l] w fun e w'=>e = .returned (.int .i64 (denN (decide (n=2)) N:Int))∧PlanO B wa w' pb (sts++denS (decide (n=2)) N m r l) rest∧Rn B w w':=by
 have HP:Hid (PlanO B wa w pb sts rest∧sts.length=N∧Rn B w w):=⟨hP,hN,Rn.refl _ _⟩
 obtain ⟨R,eR⟩:∃ R,denN (decide (n=2)) N=R:=⟨_,rfl⟩
 obtain ⟨S,eS⟩:∃ S,sts++denS (decide (n=2)) N m r l=S:=⟨_,rfl⟩
 have HR:Hid (denN (decide (n=2)) N=R∧sts++denS (decide (n=2)) N m r l=S):=⟨eR,eS⟩
 rw [eR,eS]
 clear hP eR eS hN
 go_enter Tryz.func81,Tryz.ntmps81
 by_cases h2:n=2
 ·subst h2
  go_wp2_with fail
  refine (padd_do B pb N _ rest HP.out.2.1 (by omega) 14 l 0 0 wa w HP.out.1).mono ?_
  rintro e w1 ⟨rfl,H1⟩
  go_wp2_with fail
  refine (padd_do B pb (N+1) _ rest H1.out.2.1 (by omega) 4 m (N:Int) 0 wa w1 H1.out.1).mono ?_
  rintro e w2 ⟨rfl,H2⟩
  go_wp2_with fail
  refine (padd_do B pb (N+1+1) _ rest H2.out.2.1 (by omega) 8 ((N+1:Nat):Int) 0 1 wa w2 H2.out.1).mono ?_
  rintro e w3 ⟨rfl,H3⟩
  go_wp2_with fail
  refine (padd_do B pb (N+1+1+1) _ rest H3.out.2.1 (by omega) 2 ((N+2:Nat):Int) r 0 wa w3 H3.out.1).mono ?_
  rintro e w4 ⟨rfl,H4⟩
  have e1:R=N+3:=by rw [← HR.out.1];rfl
  have HF:Hid (PlanO B wa w4 pb S rest∧Rn B w w4):=by
   refine ⟨?_,((H1.out.2.2.trans H2.out.2.2).trans H3.out.2.2).trans H4.out.2.2⟩
   rw [← HR.out.2]
   have:=H4.out.1
   simp only [List.append_assoc,List.cons_append,List.nil_append] at this
   exact this
  subst e1
  clear H1 H2 H3 H4
  go_wp2
  go_ret
  exact ⟨by simp;omega,HF.out⟩
 ·have h2':((n:Int)==2)=false:=by simpa using (show (n:Int)≠2 by omega)
  go_wp2_with fail
  refine (padd_do B pb N _ rest HP.out.2.1 (by omega) 4 m l 0 wa w HP.out.1).mono ?_
  rintro e w2 ⟨rfl,H2⟩
  go_wp2_with fail
  refine (padd_do B pb (N+1) _ rest H2.out.2.1 (by omega) 8 (N:Int) 0 1 wa w2 H2.out.1).mono ?_
  rintro e w3 ⟨rfl,H3⟩
  go_wp2_with fail
  refine (padd_do B pb (N+1+1) _ rest H3.out.2.1 (by omega) 2 ((N+1:Nat):Int) r 0 wa w3 H3.out.1).mono ?_
  rintro e w4 ⟨rfl,H4⟩
  have e1:R=N+2:=by rw [← HR.out.1,decide_eq_false h2];rfl
  have HF:Hid (PlanO B wa w4 pb S rest∧Rn B w w4):=by
   refine ⟨?_,(H2.out.2.2.trans H3.out.2.2).trans H4.out.2.2⟩
   rw [← HR.out.2,decide_eq_false h2]
   have:=H4.out.1
   simp only [List.append_assoc,List.cons_append,List.nil_append] at this
   exact this
  subst e1
  clear H2 H3 H4
  go_wp2
  go_ret
  exact ⟨by simp;omega,HF.out⟩
end Go.Proofs.YtjlofobnmjompaaGreatDoor.Wd
