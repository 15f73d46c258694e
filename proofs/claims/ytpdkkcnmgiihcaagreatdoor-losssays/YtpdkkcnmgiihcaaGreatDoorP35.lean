/- Losses on a tape that the reference sweeps back. · The reference's small functions of a tape: two, by, whole, scalar. · The reference's Leaf: the node that it adds, or why it adds none. · The reference's Do: what it says, and where it refuses. -/
import Derived.Test.YtpdkkcnmgiihcaaGreatDoorP25
import Derived.Test.YtpdkkcnmgiihcaaGreatDoorP34
import Derived.Test.YtpdkkcnmgiihcaaGreatDoorP13
import Derived.Test.YtpdkkcnmgiihcaaGreatDoorP09
import Derived.Test.YtpdkkcnmgiihcaaGreatDoorP29
set_option linter.unusedVariables false
set_option linter.unusedSimpArgs false
set_option maxHeartbeats 16000000
set_option maxRecDepth 16000
namespace Go.Proofs.YtpdkkcnmgiihcaaGreatDoor.Wd
open Go.RowKit Fx
theorem rn_loss {op:Int} (h:op=2∨op=3∨op=4∨op=9∨op=10∨op=11):RnP op:=by
 have ho:2≤op∧op≤14:=by omega
 exact fun B tb ns i b k D X ai hnd hai0 nda hk hnda hga dB_ xB_ hRB h2 p p2 m c m2 c2 g hg eg ok w hT g1 g2=>rone_l B tb ns i op b k D X ai hnd hai0 nda hk hnda hga dB_ xB_ hRB h2 ho h p p2 m c m2 c2 g hg eg ok w hT g1 g2
theorem NodesR.nil:NodesR []:=fun nd h=>by simp at h
theorem NodesR.leaf {ns:List Nd} {d x:List Int} (h:NodesR ns):NodesR (leafN ns d x):=by
 unfold leafN
 split
 ·intro nd hm
  rcases List.mem_append.1 hm with h1|h1
  ·exact h nd h1
  ·simp at h1
   subst h1
   exact ⟨by show InR 0;unfold InR;omega,fun h=>absurd rfl h⟩
 ·exact h
theorem NodesR.do {ns:List Nd} {op a b k:Int} (h:NodesR ns) (hk:InR k) (hc:op≠1→RnP op):NodesR (doN ns op a b k):=by
 unfold doN
 split
 ·intro nd hm
  rcases List.mem_append.1 hm with h1|h1
  ·exact h nd h1
  ·simp at h1
   subst h1
   refine ⟨?_,hc⟩
   show InR (dK op k)
   unfold dK
   split
   ·exact hk
   ·unfold InR
    omega
 ·exact h
def StpR (s:Nd):Prop:=InR s.k∧(s.op≠1→RnP s.op)
theorem NodesR.ls {ns:List Nd} {s:Nd} (h:NodesR ns) (hs:StpR s):NodesR (lsN ns s):=by
 unfold lsN
 split
 ·exact h.leaf
 ·exact h.do hs.1 hs.2
theorem NodesR.lyF {ns sts:List Nd} (h:NodesR ns) (hs:∀ i,StpR (stA sts i)):∀ i,NodesR (lyF sts ns i).2.1
 | 0=>h
 | i+1=>by
  show NodesR (if (Wd.lyF sts ns i).1=0 then (lsE (Wd.lyF sts ns i).2.1 (stA sts i),lsN (Wd.lyF sts ns i).2.1 (stA sts i),lsR (Wd.lyF sts ns i).2.1 (stA sts i)) else Wd.lyF sts ns i).2.1
  split
  ·exact (NodesR.lyF h hs i).ls (hs i)
  ·exact NodesR.lyF h hs i
theorem NodesR.lo {ns sts:List Nd} {e:Int} (h:NodesR ns) (hs:∀ i,StpR (stA sts i)):NodesR (loN e ns sts):=by
 unfold loN
 split
 ·unfold lyM
  split
  ·exact NodesR.lyF h hs _
  ·exact h
 ·exact h
theorem stpr_leaf (y:List Int):StpR (lfS y):=⟨by show InR 0;unfold InR;omega,fun h=>absurd rfl h⟩
theorem stpr_op {op a b k:Int} (h:op=2∨op=3∨op=4∨op=9∨op=10∨op=11) (hk:InR k):StpR (opS op a b k):=⟨hk,fun _=>rn_loss h⟩
theorem stpr_no:StpR ⟨1,0,0,0,[],[]⟩:=⟨by show InR 0;unfold InR;omega,fun h=>absurd rfl h⟩
theorem sqS_R {N o:Int} {y:List Int}:∀ i,StpR (stA (sqS N o y) i)
 | 0=>stpr_leaf y
 | 1=>stpr_op (by omega) (by unfold InR;omega)
 | 2=>stpr_op (by omega) (by unfold InR;omega)
 | 3=>stpr_op (by omega) (by unfold InR;omega)
 | _+4=>stpr_no
theorem szS_R {N o:Int} {y:List Int}:∀ i,StpR (stA (szS N o y) i)
 | 0=>stpr_leaf y
 | 1=>stpr_op (by omega) (by unfold InR;omega)
 | 2=>stpr_op (by omega) (by unfold InR;omega)
 | 3=>stpr_op (by omega) (by unfold InR;omega)
 | _+4=>stpr_no
theorem hgS_R {N o:Int} {n:Nat} {c:Int}:∀ i,StpR (stA (hgS N o n c) i)
 | 0=>stpr_leaf _
 | 1=>stpr_leaf _
 | 2=>stpr_op (by omega) (by unfold InR;omega)
 | 3=>stpr_op (by omega) (by unfold InR;omega)
 | 4=>stpr_op (by omega) (by unfold InR;omega)
 | 5=>stpr_op (by omega) (by unfold InR;omega)
 | 6=>stpr_op (by omega) (by unfold InR;omega)
 | 7=>stpr_op (by omega) (by unfold InR;omega)
 | 8=>stpr_op (by omega) (by unfold InR;omega)
 | _+9=>stpr_no
theorem one_R_ {n:Nat} {x:List Int} (hx:RwP n x):NodesR (one1 n x):=by
 have:=NodesR.leaf (d:=[(n:Int)]) (x:=x) NodesR.nil
 rwa [(one_ok hx).2.2] at this
/-- A tape that both sweep back. -/
structure Both (NS:List Nd) (R:Nat):Prop where
 g:NodesG NS
 v:NodesV NS
 k:NodesK NS
 r:NodesR NS
 l:NS.length=R+1
 f:R+1≤512
 e:(ndN NS (R:Int)).X.length=1
theorem Both.swe {NS:List Nd} {R:Nat} (h:Both NS R):swE NS (R:Int)=0:=(if_pos ⟨by omega,by have:=h.l;omega⟩).trans (if_pos h.e)
theorem Both.len {NS:List Nd} {R:Nat} (h:Both NS R):(swL NS (R:Int)).length=R+1:=by
 unfold swL
 rw [if_pos h.swe]
 have:=h.l
 exact (swK_g h.g h.v (by omega) h.e _).l
theorem Both.grad {NS:List Nd} {R:Nat} (h:Both NS R):∃ t,(swL NS (R:Int))[0]?=some t∧TenG t:=by
 have e:swL NS (R:Int)=(swK NS R (R+1)).1:=by
  unfold swL
  rw [if_pos h.swe]
  rfl
 rw [e]
 have:=h.l
 have sg:=swK_g h.g h.v (root:=R) (by omega) h.e (R+1)
 have hl:0 < (swK NS R (R+1)).1.length:=by rw [sg.l];omega
 refine ⟨_,List.getElem?_eq_getElem hl,?_⟩
 have g:=(sg.g 0 (by omega)).1
 rw [List.getD_eq_getElem?_getD,List.getElem?_eq_getElem hl] at g
 exact g
theorem Fit.bsq {n:Nat} {x y:List Int} (hx:RwP n x) (hy:RwP n y) (rx:RI x) (ry:RI y):Both (sq4 (one1 n x) 0 n x y) 4:=by
 have hf:=one_fit hx hy
 have hvk:=hf.sqVK (one_V hx) (one_K hx)
 have hr:=(one_R_ hx).lo (e:=fitE (one1 n x) 0 y) (sqS_R (N:=((one1 n x).length:Int)) (o:=0) (y:=y))
 rw [hf.square.2.2] at hr
 refine ⟨hf.sqG (one_G hx rx) ry,hvk.1,hvk.2,hr,sq4_len _ _ _ _ _,by omega,?_⟩
 have e:=nd_at hf.sqN
 show (ndN (sq4 (one1 n x) 0 n x y) (((one1 n x).length+3:Nat):Int)).X.length=1
 rw [e]
 rfl
theorem Fit.bsz {n:Nat} {x y:List Int} (hx:RwP n x) (hy:RwP n y) (rx:RI x) (ry:RI y):Both (sz4 (one1 n x) 0 n x y) 4:=by
 have hf:=one_fit hx hy
 have hvk:=hf.szVK (one_V hx) (one_K hx)
 have hr:=(one_R_ hx).lo (e:=fitE (one1 n x) 0 y) (szS_R (N:=((one1 n x).length:Int)) (o:=0) (y:=y))
 rw [hf.size.2.2] at hr
 refine ⟨hf.szG (one_G hx rx) ry,hvk.1,hvk.2,hr,sz4_len _ _ _ _ _,by omega,?_⟩
 have e:=nd_at hf.szN
 show (ndN (sz4 (one1 n x) 0 n x y) (((one1 n x).length+3:Nat):Int)).X.length=1
 rw [e]
 rfl
theorem bhg {n:Nat} {x:List Int} (hx:RwP n x) (rx:RI x) {c:Int} (hc:0≤c∧c < (n:Int)):Both (hg9 (one1 n x) 0 n c x) 9:=by
 have hl:(one1 n x).length+9≤512:=by show 1+9≤512;omega
 have hk:=hinge_ok hx (one_n n x) hl hc
 have a:=(one_V hx).lo (e:=plcE (one1 n x) 0 c) (sts:=hgS ((one1 n x).length:Int) 0 (plcN (one1 n x) 0 c) c)
 have b:=(one_K hx).lo (e:=plcE (one1 n x) 0 c) (hgS_K (N:=((one1 n x).length:Int)) (o:=0) (n:=plcN (one1 n x) 0 c) (c:=c))
 have r:=(one_R_ hx).lo (e:=plcE (one1 n x) 0 c) (hgS_R (N:=((one1 n x).length:Int)) (o:=0) (n:=plcN (one1 n x) 0 c) (c:=c))
 rw [hk.2.2] at a b r
 refine ⟨hgG hx (one_n n x) hl hc (one_G hx rx),a,b,r,hg9_len _ _ _ _ _,by omega,?_⟩
 have e:=nd_at (hg_last (one1 n x) 0 n c x)
 show (ndN (hg9 (one1 n x) 0 n c x) (((one1 n x).length+8:Nat):Int)).X.length=1
 rw [e]
 rfl
theorem rtwo_any (op:Int) (q:Bool) (hq:decide (twoP op)=q) (w:World):
  Calls Tryz.prog 48 #[.int .i64 op] w fun e w'=>e = .returned (.bool q)∧w'=w:=by
 by_cases h2:op=2
 ·subst h2
  have hq':q=true:=by rw [← hq];decide
  subst hq'
  clear hq
  go_enter Tryz.func48,Tryz.ntmps48
  go_wp2
  go_ret
  exact ⟨rfl,rfl⟩
 by_cases h3:op=3
 ·subst h3
  have hq':q=true:=by rw [← hq];decide
  subst hq'
  clear hq
  go_enter Tryz.func48,Tryz.ntmps48
  go_wp2
  go_ret
  exact ⟨rfl,rfl⟩
 by_cases h4:op=4
 ·subst h4
  have hq':q=true:=by rw [← hq];decide
  subst hq'
  clear hq
  go_enter Tryz.func48,Tryz.ntmps48
  go_wp2
  go_ret
  exact ⟨rfl,rfl⟩
 by_cases h6:op=6
 ·subst h6
  have hq':q=true:=by rw [← hq];decide
  subst hq'
  clear hq
  go_enter Tryz.func48,Tryz.ntmps48
  go_wp2
  go_ret
  exact ⟨rfl,rfl⟩
 by_cases h12:op=12
 ·subst h12
  have hq':q=true:=by rw [← hq];decide
  subst hq'
  clear hq
  go_enter Tryz.func48,Tryz.ntmps48
  go_wp2
  go_ret
  exact ⟨rfl,rfl⟩
 have g2:(op==2)=false:=by simpa using h2
 have g3:(op==3)=false:=by simpa using h3
 have g4:(op==4)=false:=by simpa using h4
 have g6:(op==6)=false:=by simpa using h6
 have g12:(op==12)=false:=by simpa using h12
 have hq':q=false:=by rw [← hq];exact decide_eq_false (by omega)
 subst hq'
 clear hq h2 h3 h4 h6 h12
 go_enter Tryz.func48,Tryz.ntmps48
 go_wp2
 go_ret
 exact ⟨rfl,rfl⟩
theorem rby_any (op:Int) (q:Bool) (hq:decide (byP op)=q) (w:World):
  Calls Tryz.prog 49 #[.int .i64 op] w fun e w'=>e = .returned (.bool q)∧w'=w:=by
 by_cases h5:op=5
 ·subst h5
  have hq':q=true:=by rw [← hq];decide
  subst hq'
  clear hq
  go_enter Tryz.func49,Tryz.ntmps49
  go_wp2
  go_ret
  exact ⟨rfl,rfl⟩
 by_cases h8:op=8
 ·subst h8
  have hq':q=true:=by rw [← hq];decide
  subst hq'
  clear hq
  go_enter Tryz.func49,Tryz.ntmps49
  go_wp2
  go_ret
  exact ⟨rfl,rfl⟩
 by_cases h11:op=11
 ·subst h11
  have hq':q=true:=by rw [← hq];decide
  subst hq'
  clear hq
  go_enter Tryz.func49,Tryz.ntmps49
  go_wp2
  go_ret
  exact ⟨rfl,rfl⟩
 by_cases h12:op=12
 ·subst h12
  have hq':q=true:=by rw [← hq];decide
  subst hq'
  clear hq
  go_enter Tryz.func49,Tryz.ntmps49
  go_wp2
  go_ret
  exact ⟨rfl,rfl⟩
 by_cases h13:op=13
 ·subst h13
  have hq':q=true:=by rw [← hq];decide
  subst hq'
  clear hq
  go_enter Tryz.func49,Tryz.ntmps49
  go_wp2
  go_ret
  exact ⟨rfl,rfl⟩
 have g5:(op==5)=false:=by simpa using h5
 have g8:(op==8)=false:=by simpa using h8
 have g11:(op==11)=false:=by simpa using h11
 have g12:(op==12)=false:=by simpa using h12
 have g13:(op==13)=false:=by simpa using h13
 have hq':q=false:=by rw [← hq];exact decide_eq_false (by omega)
 subst hq'
 clear hq h5 h8 h11 h12 h13
 go_enter Tryz.func49,Tryz.ntmps49
 go_wp2
 go_ret
 exact ⟨rfl,rfl⟩
theorem rwhole_any (k z:Int) (hz:whI k=z) (w:World):
  Calls Tryz.prog 75 #[.int .i64 k] w fun e w'=>e = .returned (.int .i64 z)∧w'=w:=by
 unfold whI at hz
 by_cases h1:k < -1000000
 ·rw [if_pos (.inl h1)] at hz
  subst hz
  go_enter Tryz.func75,Tryz.ntmps75
  go_wp2
  go_ret
  exact ⟨rfl,rfl⟩
 ·by_cases h2:1000000 < k
  ·rw [if_pos (.inr h2)] at hz
   subst hz
   have h1':-1000000≤k:=by omega
   go_enter Tryz.func75,Tryz.ntmps75
   go_wp2
   go_ret
   exact ⟨rfl,rfl⟩
  ·rw [if_neg (fun h=>h.elim h1 h2)] at hz
   subst hz
   have h1':-1000000≤k:=by omega
   have h2':k≤1000000:=by omega
   go_enter Tryz.func75,Tryz.ntmps75
   go_wp2
   go_ret
   exact ⟨rfl,rfl⟩
theorem rscalar_any (v:Int) (w:World):
  Calls Tryz.prog 76 #[.int .i64 v] w fun e w'=>∃ u,e = .returned u∧TRes w' w.heap.size u [] [v]∧Below w.heap.size w w':=by
 have cN:∀ W:World,Calls Tryz.prog 23 #[.slice none 0 0,.int .i64 v] W fun e w'=>∃ v',e = .returned v'∧TNew w' W.heap.size v' [] (prodN (ntl [])) (List.replicate (prodN (ntl [])) v)∧Below W.heap.size W w':=fun W=>rnew_any _ [] (fun y hy=>by simp at hy) (is_nil 0).1 v W (.inl ⟨rfl,rfl⟩)
 have e1:List.replicate (prodN (ntl [])) v = [v]:=by simp [ntl,prodN]
 rw [e1] at cN
 clear e1
 go_enter Tryz.func76,Tryz.ntmps76
 go_wp2_with fail
 generalize hW0:World.alloc _ _=W0
 have HB0:=hidB (w:=w) hW0 (by go_grown)
 have XR:Hid (Cel W0 w.heap.size (.slice none 0 0) (.slice none 0 0)):=celW hW0 (by simp [go_sem])
 clear hW0
 refine (cN W0).mono ?_
 rintro e w1 ⟨v1,rfl,h1,hB1⟩
 obtain ⟨s1,t1,rfl,hs,ht⟩:=h1.res
 obtain ⟨pa,na,ca,rfl,_⟩:=hs.nums.lst
 obtain ⟨pb,nb,cb,rfl,_⟩:=ht.nums.lst
 obtain ⟨HF,r0,r1,r2,r3,y0,y1⟩:=fin2 XR HB0 hB1 hs ht (by omega)
 clear cN h1 hs ht
 go_wp2
 exact bodyPost_ret (v:=.agg #[.slice pa na ca,.slice pb nb cb]) (by simp [results,Tryz.results76,go_sem,y0,y1]) rfl ⟨_,rfl,HF.out⟩
/-- What reckon tells at one Op. -/
def RkP (op:Int):Prop:=∀ (p p2 p3 p4:Option Addr) (n c n2 c2 n3 c3 n4 c4:Nat) (dd yy d' y':List Int) (K:Int) (hK:InR K) (hg:TnsG dd yy) (hd':RI d') (hy':RI y') (hnc:n≤c) (w:World) (h1:Nums .i64 w (.slice p n c) dd) (h2:Nums .i64 w (.slice p2 n2 c2) yy) (h3:Nums .i64 w (.slice p3 n3 c3) d') (h4:Nums .i64 w (.slice p4 n4 c4) y'),
  Calls Tryz.prog 50 #[.int .i64 op,.agg #[.slice p n c,.slice p2 n2 c2],.agg #[.slice p3 n3 c3,.slice p4 n4 c4],.int .i64 K] w fun e w'=>∃ v',e = .returned (.tuple #[v',.int .i64 (rkE op dd yy d' y' K)])∧TRes w' w.heap.size v' (rkD op dd yy d' y' K) (rkV op dd yy d' y' K)∧Below w.heap.size w w'
theorem ne_nt:47≠41:=by decide
theorem nodeT:StT Tryz.prog 39 47 80:=⟨Tryz.underlying39,by kernel_rfl⟩
theorem rleaf_full (B tb:Nat) (ns:List Nd) (p p2:Option Addr) (n c n2 c2:Nat) (dd yy:List Int) (hd:RI dd) (w:World) (hT:Tap 41 47 w B tb ns) (h1:Nums .i64 w (.slice p n c) dd) (h2:Nums .i64 w (.slice p2 n2 c2) yy) (hfull:512≤ns.length):
  Calls Tryz.prog 16 #[.pointer (some ⟨tb,0,none⟩),.agg #[.slice p n c,.slice p2 n2 c2]] w fun e w'=>e = .returned (.tuple #[.int .i64 (leafR ns dd yy),.int .i64 (leafE ns dd yy)])∧Tap 41 47 w' B tb (leafN ns dd yy)∧Below B w w'∧Only [41,47] w w':=by
 have hTT:Hid (Tap 41 47 w B tb ns):=hT
 obtain ⟨pL,cL,xs0,hv,ho,hn0,hnc⟩:=hT.head
 obtain ⟨N,eN⟩:∃ N,ns.length=N:=⟨_,rfl⟩
 rw [eN] at hv ho hnc
 have hcell:=(head_cell hv).1
 have hz:=heap_lt hv
 have hl:512≤N:=by rw [← eN];exact hfull
 have hl':(512:Int)≤(N:Int):=by omega
 have e1:leafE ns dd yy=2:=if_pos hfull
 have e2:leafR ns dd yy=0:=if_neg fun h=>by omega
 have e3:leafN ns dd yy=ns:=if_neg fun h=>by omega
 rw [e1,e2,e3]
 have HBB:Hid (B≤w.heap.size):=Nat.le_trans hTT.out.1 (Nat.le_of_lt hz)
 clear hT hv ho hn0 hnc e1 e2 e3 h1 h2 hd hfull eN
 go_enter Tryz.func16,Tryz.ntmps16
 go_wp2
 exact bodyPost_ret (v:=.tuple #[.int .i64 0,.int .i64 2]) (by simp [results,Tryz.results16,go_sem]) rfl ⟨rfl,hTT.out.up (by go_grown),(by go_grown:Below w.heap.size w _).mono HBB.out,Only.of (by go_grown)⟩
theorem rleaf_bad (B tb:Nat) (ns:List Nd) (p p2:Option Addr) (n c n2 c2:Nat) (dd yy:List Int) (hd:RI dd) (w:World) (hT:Tap 41 47 w B tb ns) (h1:Nums .i64 w (.slice p n c) dd) (h2:Nums .i64 w (.slice p2 n2 c2) yy) (hroom:ns.length < 512) (hp:¬ isP dd yy):
  Calls Tryz.prog 16 #[.pointer (some ⟨tb,0,none⟩),.agg #[.slice p n c,.slice p2 n2 c2]] w fun e w'=>e = .returned (.tuple #[.int .i64 (leafR ns dd yy),.int .i64 (leafE ns dd yy)])∧Tap 41 47 w' B tb (leafN ns dd yy)∧Below B w w'∧Only [41,47] w w':=by
 have hTT:Hid (Tap 41 47 w B tb ns):=hT
 obtain ⟨pL,cL,xs0,hv,ho,hn0,hnc⟩:=hT.head
 obtain ⟨N,eN⟩:∃ N,ns.length=N:=⟨_,rfl⟩
 rw [eN] at hv ho hnc
 have hcell:=(head_cell hv).1
 have hz:=heap_lt hv
 have hl:Hid (N < 512):=by show _ < _;rw [← eN];exact hroom
 have hd1:decide ((512:Int)≤(N:Int))=false:=decide_eq_false (by have:=hl.out;omega)
 have hd2:decide (512≤N)=false:=decide_eq_false (by have:=hl.out;omega)
 have cA:=fun W (hW:Below w.heap.size w W)=>ris_any _ _ dd yy hd W (h1.up hW) (h2.up hW)
 rw [decide_eq_false hp] at cA
 have e1:leafE ns dd yy=1:=(if_neg (by omega)).trans (if_neg hp)
 have e2:leafR ns dd yy=0:=if_neg fun h=>hp h.2
 have e3:leafN ns dd yy=ns:=if_neg fun h=>hp h.2
 rw [e1,e2,e3]
 have HBB:Hid (B≤w.heap.size):=Nat.le_trans hTT.out.1 (Nat.le_of_lt hz)
 clear hT hv ho hn0 hnc e1 e2 e3 h1 h2 hd hp hroom eN
 go_enter Tryz.func16,Tryz.ntmps16
 go_wp2_with fail
 generalize hW0:World.alloc _ _=W0
 have HB0:=hidB (w:=w) hW0 (by go_grown)
 have XA:Hid (Cel W0 w.heap.size (.slice p n c) (.slice p2 n2 c2)):=celW hW0 (by simp [go_sem])
 clear hW0
 refine (cA W0 HB0.out).mono ?_
 rintro e w1 ⟨rfl,hB1⟩
 have HB1:=hid2 (bstep HB0.out hB1) hB1
 clear hB1 cA
 go_wp2
 exact bodyPost_ret (v:=.tuple #[.int .i64 0,.int .i64 1]) (by simp [results,Tryz.results16,go_sem]) rfl ⟨rfl,hTT.out.up HB1.out.1,HB1.out.1.mono HBB.out,Only.of HB1.out.1⟩
theorem owned_not_ten {W:World} {B n s b6:Nat} {v s1 t1:Value} {xs:List Value} (hb:W.heap[b6]?=some (.cells #[s1,t1] 31 (0,0))) (h:W.ownsRow B 47 s v n xs):v.ownBlock≠some b6:=by
 rcases h.2 with ⟨rfl,_⟩|⟨g,cap,cur,rfl,_,hg,_⟩
 ·simp [Value.ownBlock]
 ·intro e
  simp [Value.ownBlock] at e
  subst e
  rw [hb] at hg
  cases hg
theorem rleaf_good (B tb:Nat) (ns:List Nd) (p p2:Option Addr) (n c n2 c2:Nat) (dd yy:List Int) (hd:RI dd) (w:World) (hT:Tap 41 47 w B tb ns) (h1:Nums .i64 w (.slice p n c) dd) (h2:Nums .i64 w (.slice p2 n2 c2) yy) (hroom:ns.length < 512) (hp:isP dd yy):
  Calls Tryz.prog 16 #[.pointer (some ⟨tb,0,none⟩),.agg #[.slice p n c,.slice p2 n2 c2]] w fun e w'=>e = .returned (.tuple #[.int .i64 (leafR ns dd yy),.int .i64 (leafE ns dd yy)])∧Tap 41 47 w' B tb (leafN ns dd yy)∧Below B w w'∧Only [41,47] w w':=by
 have hTT:Hid (Tap 41 47 w B tb ns):=hT
 obtain ⟨pL0,cL0,xs00,hv,ho,hn0,hnc⟩:=hT.head
 obtain ⟨N,eN⟩:∃ N,ns.length=N:=⟨_,rfl⟩
 rw [eN] at hv ho hnc
 have hcell:=(head_cell hv).1
 have hz:=heap_lt hv
 have hl:Hid (N < 512):=by show _ < _;rw [← eN];exact hroom
 have hd1:decide ((512:Int)≤(N:Int))=false:=decide_eq_false (by have:=hl.out;omega)
 have hd2:decide (512≤N)=false:=decide_eq_false (by have:=hl.out;omega)
 have cA:=fun W (hW:Below w.heap.size w W)=>ris_any _ _ dd yy hd W (h1.up hW) (h2.up hW)
 rw [decide_eq_true hp] at cA
 have e1:leafE ns dd yy=0:=(if_neg (by omega)).trans (if_pos hp)
 have e2:leafR ns dd yy=(N:Int):=by rw [← eN];exact if_pos ⟨hroom,hp⟩
 have e3:leafN ns dd yy=ns++[⟨1,-1,-1,0,dd,yy⟩]:=if_pos ⟨hroom,hp⟩
 rw [e1,e2,e3]
 have HN:Hid (Nums .i64 w (.slice p n c) dd∧Nums .i64 w (.slice p2 n2 c2) yy∧isP dd yy):=⟨h1,h2,hp⟩
 haveI:Nonempty World:=⟨w⟩
 clear hT hv ho hn0 hnc e1 e2 e3 h1 h2 hd hp hroom
 go_enter Tryz.func16,Tryz.ntmps16
 go_wp2_with fail
 generalize hW0:World.alloc _ _=W0
 have HB0:=hidB (w:=w) hW0 (by go_grown)
 have XA:Hid (Cel W0 w.heap.size (.slice p n c) (.slice p2 n2 c2)):=celW hW0 (by simp [go_sem])
 clear hW0
 refine (cA W0 HB0.out).mono ?_
 rintro e w1 ⟨rfl,hB1⟩
 have HB1:=hid2 (bstep HB0.out hB1) hB1
 clear hB1 cA
 obtain ⟨a0,a1,_,_⟩:=XA.out.up HB1.out.2
 have z0:=cell_lt a0
 have HND:Hid (∀ W,Below w1.heap.size w1 W→Nums .i64 W (.slice p n c) dd∧dd.length≤1073741824):=fun W hW=>⟨HN.out.1.up (bstep HB1.out.1 hW),by have:=HN.out.2.2.1.1;rw [ntl_len] at this;omega⟩
 have HNX:Hid (∀ W,Below w1.heap.size w1 W→Nums .i64 W (.slice p2 n2 c2) yy∧yy.length≤1073741824):=fun W hW=>⟨HN.out.2.1.up (bstep HB1.out.1 hW),by have h3:=HN.out.2.2.1.2.2;have h4:=HN.out.2.2.2;omega⟩
 go_wp2_with fail
 refine rel [⟨0,16,Emp .i64 3 w1.heap.size⟩,⟨3,19,fun v W=>OwnK .i64 3 W w1.heap.size v dd⟩,⟨4,20,Emp .i64 33 w1.heap.size⟩,⟨7,23,fun v W=>OwnK .i64 33 W w1.heap.size v yy⟩,⟨8,24,OwnT w1.heap.size dd yy⟩,⟨9,6,NewC w1.heap.size⟩] 10 42 (by kernel_rfl) rfl rfl (by kernel_rfl) (by rfl) ?_ ?_
 ·intro e he v W W' h hb
  simp only [List.mem_cons,List.not_mem_nil,or_false] at he
  rcases he with rfl|rfl|rfl|rfl|rfl|rfl
  ·obtain ⟨g,e1,h1⟩:=h
   exact ⟨g,e1,h1.up hb⟩
  ·exact OwnK.up h hb
  ·obtain ⟨g,e1,h1⟩:=h
   exact ⟨g,e1,h1.up hb⟩
  ·exact OwnK.up h hb
  ·exact OwnT.up h hb
  ·exact NewC.up h hb
 apply Exists.intro
 refine ⟨fun x=>?_,?_,?_⟩
 ·simp only [List.take_succ_cons,List.take_zero]
  refine relTold rfl rfl ?_ ?_
  ·intro F hF hf d
   have hFc:=hF.cell
   have hFf:=hF.frozen
   simp [yieldsR,yieldsUpon,go_sem]
   exact ⟨⟨(F d).heap.size,rfl,(own_lit (k:=.i64) (e:=3) (F d) [] 0 rfl (by decide)).low (hF.below d).size⟩,up_alloc _ _⟩
  iterate 2
   (try simp only [putL])
   refine relQuiet rfl rfl ?_
   apply Exists.intro
   refine ⟨fun F hF hf K hK=>?_,?_⟩
   ·have hFc:=hF.cell
    have hFf:=hF.frozen
    go_big_quiet_op
    exact hK
  (try simp only [putL])
  refine relTold rfl rfl ?_ ?_
  ·intro F hF hf d
   have hFc:=hF.cell
   have hFf:=hF.frozen
   have h9:=hf _ List.mem_cons_self (by rfl) d
   obtain ⟨g9,e9,o9⟩:=h9
   simp only [] at e9
   rw [e9] at o9
   obtain ⟨v8,w8,hr,ho,hb⟩:=app0 numT (by decide) 28 (F d) w1.heap.size g9 o9 (hF.below d).size _ _ (HND.out (F d) (hF.below d)).1 (HND.out (F d) (hF.below d)).2
   simp [yieldsR,yieldsUpon,execOp,resolve,invoke,builtin,Act.eval,e9,hr,Result.andThen]
   exact ⟨ho,hb⟩
  (try simp only [putL])
  refine relTold rfl rfl ?_ ?_
  ·intro F hF hf d
   have hFc:=hF.cell
   have hFf:=hF.frozen
   simp [yieldsR,yieldsUpon,go_sem]
   exact ⟨⟨(F d).heap.size,rfl,(own_lit (k:=.i64) (e:=33) (F d) [] 0 rfl (by decide)).low (hF.below d).size⟩,up_alloc _ _⟩
  iterate 2
   (try simp only [putL])
   refine relQuiet rfl rfl ?_
   apply Exists.intro
   refine ⟨fun F hF hf K hK=>?_,?_⟩
   ·have hFc:=hF.cell
    have hFf:=hF.frozen
    go_big_quiet_op
    exact hK
  (try simp only [putL])
  refine relTold rfl rfl ?_ ?_
  ·intro F hF hf d
   have hFc:=hF.cell
   have hFf:=hF.frozen
   have h9:=hf _ (List.mem_cons_of_mem _ (List.mem_cons_of_mem _ List.mem_cons_self)) (by rfl) d
   obtain ⟨g9,e9,o9⟩:=h9
   simp only [] at e9
   rw [e9] at o9
   obtain ⟨v8,w8,hr,ho,hb⟩:=app0 fixT (by decide) 29 (F d) w1.heap.size g9 o9 (hF.below d).size _ _ (HNX.out (F d) (hF.below d)).1 (HNX.out (F d) (hF.below d)).2
   simp [yieldsR,yieldsUpon,execOp,resolve,invoke,builtin,Act.eval,e9,hr,Result.andThen]
   exact ⟨ho,hb⟩
  (try simp only [putL])
  refine relTold rfl rfl ?_ ?_
  ·intro F hF hf d
   have hFc:=hF.cell
   have hFf:=hF.frozen
   have h9:OwnK .i64 3 (F d) w1.heap.size (x 3) dd:=hf _ (List.mem_cons_of_mem _ List.mem_cons_self) (by rfl) d
   have h8:OwnK .i64 33 (F d) w1.heap.size (x 7) yy:=hf _ (List.mem_cons_of_mem _ (List.mem_cons_of_mem _ (List.mem_cons_of_mem _ List.mem_cons_self))) (by rfl) d
   obtain ⟨p9,n9,c9,e9⟩:=h9.form_
   obtain ⟨p8,n8,c8,e8⟩:=h8.form_
   rw [e9] at h9
   rw [e8] at h8
   simp [yieldsR,yieldsUpon,go_sem,e9,e8]
   exact ⟨⟨_,_,_,_,_,_,rfl,h9,h8⟩,Below.refl _ _⟩
  (try simp only [putL])
  refine relTold rfl rfl ?_ ?_
  ·intro F hF hf d
   have hFc:=hF.cell
   have hFf:=hF.frozen
   simp [yieldsR,yieldsUpon,go_sem]
   exact ⟨⟨(F d).heap.size,rfl,heap_alloc_new (F d) _,(hF.below d).size⟩,up_alloc _ _⟩
  (try simp only [putL])
  refine relEnd ?_
  exact rfl
 ·exact fun x=>rfl
 ·intro w5 xs5 hB5 hf
  simp only [List.drop_succ_cons,List.drop_zero]
  have hfa:=hf _ (List.mem_cons_of_mem _ (List.mem_cons_of_mem _ (List.mem_cons_of_mem _ (List.mem_cons_of_mem _ List.mem_cons_self))))
  have hfb:=hf _ (List.mem_cons_of_mem _ (List.mem_cons_of_mem _ (List.mem_cons_of_mem _ (List.mem_cons_of_mem _ (List.mem_cons_of_mem _ List.mem_cons_self)))))
  obtain ⟨y0,ey0⟩:∃ q,xs5 0=q:=⟨_,rfl⟩
  obtain ⟨y3,ey3⟩:∃ q,xs5 3=q:=⟨_,rfl⟩
  obtain ⟨y4,ey4⟩:∃ q,xs5 4=q:=⟨_,rfl⟩
  obtain ⟨y7,ey7⟩:∃ q,xs5 7=q:=⟨_,rfl⟩
  obtain ⟨y8,ey8⟩:∃ q,xs5 8=q:=⟨_,rfl⟩
  obtain ⟨y9,ey9⟩:∃ q,xs5 9=q:=⟨_,rfl⟩
  simp only [ey8,ey9] at hfa hfb
  simp only [ey0,ey3,ey4,ey7,ey8,ey9]
  clear ey0 ey3 ey4 ey7 ey8 ey9 hf
  obtain ⟨pa,na,ca,pb,nb,cb,rfl,hsa,hsb⟩:=hfa
  obtain ⟨b6,rfl,hb6,hlow6⟩:=hfb
  have o6:Only [31] w5 (set2 w5 b6 (.slice pa na ca) (.slice pb nb cb)):=(Only.set hb6 (by simp)).trans (Only.set (heap_setat hb6) (by simp))
  have hb6':(set2 w5 b6 (.slice pa na ca) (.slice pb nb cb)).heap[b6]?=some (.cells #[.slice pa na ca,.slice pb nb cb] 31 (0,0)):=by
   show (World.setCell _ _ _).heap[b6]?=_
   rw [heap_setat (heap_setat hb6)]
   rfl
  obtain ⟨r0,r1,r2,r3⟩:=new_cel hb6
  have hBB:B≤w.heap.size:=Nat.le_trans hTT.out.1 (Nat.le_of_lt hz)
  have hlw:w.heap.size≤b6:=Nat.le_trans HB1.out.1.size hlow6
  have HT6:Hid (Tap 41 47 (set2 w5 b6 (.slice pa na ca) (.slice pb nb cb)) B tb ns):=(hTT.out.up (bstep HB1.out.1 hB5)).only o6 (by decide) (by decide) (by decide) (by decide)
  have HB6':Hid (Below B w (set2 w5 b6 (.slice pa na ca) (.slice pb nb cb))∧B≤(set2 w5 b6 (.slice pa na ca) (.slice pb nb cb)).heap.size∧Only [41,47] w (set2 w5 b6 (.slice pa na ca) (.slice pb nb cb))):=by
   have hb:=below_cell (bstep HB1.out.1 hB5) b6 hlw (.slice pa na ca) (.slice pb nb cb)
   exact ⟨hb.mono hBB,Nat.le_trans hBB hb.size,Only.of hb⟩
  have HN6':Hid (NdC (set2 w5 b6 (.slice pa na ca) (.slice pb nb cb)) B ⟨1,-1,-1,0,dd,yy⟩ [.int .i64 1,.int .i64 (-1),.int .i64 (-1),.int .i64 0,.slice pa na ca,.slice pb nb cb]):=⟨_,_,rfl,(hsa.only o6 (by decide)).low (Nat.le_trans hBB HB1.out.1.size),(hsb.only o6 (by decide)).low (Nat.le_trans hBB HB1.out.1.size)⟩
  clear hsa hsb o6 a0 a1 z0
  go_wp2_with fail
  obtain ⟨w6,ew6⟩:∃ w6:World,set2 w5 b6 (.slice pa na ca) (.slice pb nb cb)=w6:=⟨_,rfl⟩
  rw [ew6] at HT6 HB6' HN6' hb6'
  simp only [ew6]
  have HB6:=HB6'
  have HND6:=HN6'
  obtain ⟨pL,cL,xs0,hv,ho,hn0,hnc⟩:=HT6.out.head
  rw [eN] at hv ho
  have HTP:Hid (B≤tb∧w6.heap[tb]?=some (.cells #[.slice pL N cL] 41 (0,0))∧ns.length=N∧w6.ownsRow B 47 6 (.slice pL N cL) N xs0∧NdsC w6 B ns xs0):=⟨hTT.out.1,hv,eN,ho,hn0⟩
  have HX6:Hid (Cel w6 b6 (.slice pa na ca) (.slice pb nb cb)∧some b6≠Value.ownBlock (.slice pL N cL)):=⟨new_cel hb6',Ne.symm (owned_not_ten hb6' ho)⟩
  have HRW:Hid (∀ k,Value.ownBlock (.slice pL N cL)=some k→k < w6.heap.size):=fun k hk=>(World.ownsRow.lt ho k hk).2
  have HU1:Hid (∀ q∈([.int .i64 1,.int .i64 (-1),.int .i64 (-1),.int .i64 0,.slice pa na ca,.slice pb nb cb]:List Value),q.oneCell'=true):=HND6.out.one
  clear hv ho hn0 hnc r0 r1 r2 r3 hb6 hb6' hB5 HB6' HN6' HT6 ew6
  refine from_region (by kernel_rfl) ?_
  refine seg (fun q W=>match q with|false=>Below w6.heap.size w6 W|true=>w6.grownBy W (Value.ownBlock (.slice pL N cL))) (fun W W'=>W.grownBy W' (Value.ownBlock (.slice pL N cL))) 8 [⟨7,32,LitS 47 w6.heap.size [.int .i64 1,.int .i64 (-1),.int .i64 (-1),.int .i64 0,.slice pa na ca,.slice pb nb cb]⟩,⟨8,33,OwnN 47 B (N+1) (xs0++[.int .i64 1,.int .i64 (-1),.int .i64 (-1),.int .i64 0,.slice pa na ca,.slice pb nb cb])⟩] 0 11 42 rfl rfl (by kernel_rfl) (by rfl) ?_ ?_ ?_ ?_ ?_ ?_
  ·intro q W W' h hb
   cases q
   ·exact bstep h hb
   ·exact grown_up h hb
  ·exact ⟨rfl,rfl,rfl,Nat.le_refl _,fun _ _=>rfl⟩
  ·exact .inl ⟨_,List.mem_cons_of_mem _ List.mem_cons_self,rfl⟩
  ·intro e he v W W' h hb
   simp only [List.mem_cons,List.not_mem_nil,or_false] at he
   rcases he with rfl|rfl
   ·exact LitS.up h hb
   ·exact OwnN.up h hb
  ·intro e he hne v W W' h hc ht
   simp only [List.mem_cons,List.not_mem_nil,or_false] at he
   rcases he with rfl|rfl
   ·exact LitS.grown h ht HRW.out
   ·exact absurd rfl hne
  apply Exists.intro
  refine ⟨fun x=>?_,?_,?_⟩
  ·simp only [List.drop_succ_cons,List.drop_zero,List.take_succ_cons,List.take_zero]
   iterate 4
    refine segQuiet rfl rfl ?_
    apply Exists.intro
    refine ⟨fun b F hF hf K hK=>?_,?_⟩
    ·have hFc:=hF.cls
     go_big_quiet_op
     exact hK
    (try simp only [putL])
   refine segQuiet rfl rfl ?_
   apply Exists.intro
   refine ⟨fun b F hF hf K hK=>?_,?_⟩
   ·have hFc:=hF.cls
    have q0:∀ d,(F d).cell? ⟨tb,0,none⟩=some (.slice pL N cL):=fun d=>by
     have hK:w6.grownBy (F d) (Value.ownBlock (.slice pL N cL)):=by
      cases b
      ·exact below_grown _ (hFc d)
      ·exact hFc d
     exact hK.cell (head_cell HTP.out.2.1).1 (Ne.symm (owned_off ne_nt HTP.out.2.1 HTP.out.2.2.2.1))
    clear hFc
    go_big_quiet_op
    exact hK
   (try simp only [putL])
   refine segQuiet rfl rfl ?_
   apply Exists.intro
   refine ⟨fun b F hF hf K hK=>?_,?_⟩
   ·have hFc:=hF.cls
    have q0:∀ d,(F d).cell? ⟨b6,0,none⟩=some (.slice pa na ca)∧(F d).cell? ⟨b6,1,none⟩=some (.slice pb nb cb):=fun d=>by
     have hK:w6.grownBy (F d) (Value.ownBlock (.slice pL N cL)):=by
      cases b
      ·exact below_grown _ (hFc d)
      ·exact hFc d
     exact ⟨hK.cell HX6.out.1.1 HX6.out.2,hK.cell HX6.out.1.2.1 HX6.out.2⟩
    have q1:=fun d=>(q0 d).1
    have q2:=fun d=>(q0 d).2
    clear hFc q0
    go_big_quiet_op
    exact hK
   (try simp only [putL])
   refine segQuiet rfl rfl ?_
   apply Exists.intro
   refine ⟨fun b F hF hf K hK=>?_,?_⟩
   ·have hFc:=hF.cls
    go_big_quiet_op
    exact hK
   (try simp only [putL])
   refine segTold rfl (by decide) rfl ?_ ?_
   ·intro b F hF hf d
    have hFc:=hF.cls
    have hcls:w6.heap.size≤(F d).heap.size:=by
     cases b
     ·exact (hFc d).size
     ·exact (hFc d).size
    simp [yieldsR,yieldsUpon,go_sem]
    exact ⟨⟨(F d).heap.size,rfl,heap_alloc_new (F d) _,hcls⟩,up_alloc _ _⟩
   (try simp only [putL])
   refine segBusy rfl rfl rfl ?_ ?_
   ·intro W hW hf
    have h7:=hf _ List.mem_cons_self (by rfl) W
    obtain ⟨g7,e7,hg7,_⟩:=h7
    simp only [] at e7
    obtain ⟨g8,c8,w8,hr8,ho8,hgr8⟩:=appN nodeT (by decide) 39 W B (.slice pL N cL) N xs0 (owns_only (S:=[]) HTP.out.2.2.2.1 (Only.of hW) (by simp)) g7 [.int .i64 1,.int .i64 (-1),.int .i64 (-1),.int .i64 0,.slice pa na ca,.slice pb nb cb] hg7 rfl HU1.out (by have:=hl.out;omega) (Nat.le_trans HTP.out.1 (Nat.le_trans (Nat.le_of_lt (heap_lt HTP.out.2.1)) (Below.size hW)))
    simp [leavesR,leavesUpon,execOp,resolve,invoke,builtin,Act.eval,e7,hr8,Result.andThen]
    exact ⟨ho8,grown_trans (below_grown _ hW) hgr8,hgr8⟩
   iterate 2
    (try simp only [putL])
    refine segQuiet rfl rfl ?_
    apply Exists.intro
    refine ⟨fun b F hF hf K hK=>?_,?_⟩
    ·have hFc:=hF.cls
     go_big_quiet_op
     exact hK
   (try simp only [putL])
   refine segEnd ?_
   exact rfl
  ·exact fun x=>rfl
  ·intro w8 xs8 hC8 hf8
   have hC8':w6.grownBy w8 (Value.ownBlock (.slice pL N cL)):=hC8
   refine from_list 11 (by kernel_rfl) ?_
   simp only [List.drop_succ_cons,List.drop_zero]
   have h8:=hf8 _ (List.mem_cons_of_mem _ List.mem_cons_self)
   obtain ⟨x7,e7⟩:∃ q,xs8 7=q:=⟨_,rfl⟩
   obtain ⟨x8,e8⟩:∃ q,xs8 8=q:=⟨_,rfl⟩
   simp only [e8] at h8
   simp only [e7,e8]
   obtain ⟨g8,c8,rfl,_,_⟩:=World.ownsRow.form h8 (by omega)
   obtain ⟨hTp,hOn⟩:=Tap.push (TT:=41) (NT:=47) ne_nt (by decide) (by decide) (nd:=⟨1,-1,-1,0,dd,yy⟩) HTP.out.1 HTP.out.2.1 (by rw [HTP.out.2.2.1];exact HTP.out.2.2.2.1) HTP.out.2.2.2.2 HND6.out hC8' (by rw [HTP.out.2.2.1];exact h8)
   have hv8:w8.heap[tb]?=some (.cells #[.slice pL N cL] 41 (0,0)):=by
    rw [hC8'.block tb (heap_lt HTP.out.2.1) (Ne.symm (owned_off ne_nt HTP.out.2.1 HTP.out.2.2.2.1))]
    exact HTP.out.2.1
   obtain ⟨r0,r1⟩:=head_cell hv8
   have y0:=(head_cell (v:=.slice (some ⟨g8,0,none⟩) (N+1) c8) (e:=41) (W:=w8.setCell ⟨tb,0,none⟩ (.slice (some ⟨g8,0,none⟩) (N+1) c8)) (by rw [heap_setat hv8];rfl)).1
   have HF:Hid (Tap 41 47 (w8.setCell ⟨tb,0,none⟩ (.slice (some ⟨g8,0,none⟩) (N+1) c8)) B tb (ns++[⟨1,-1,-1,0,dd,yy⟩])∧Below B w (w8.setCell ⟨tb,0,none⟩ (.slice (some ⟨g8,0,none⟩) (N+1) c8))∧Only [41,47] w (w8.setCell ⟨tb,0,none⟩ (.slice (some ⟨g8,0,none⟩) (N+1) c8))):=
    ⟨hTp,(Below.grown HB6.out.1 hC8' HB6.out.2.1 (OwnN_block HTP.out.2.2.2.1)).setCell (p:=⟨tb,0,none⟩) HTP.out.1 _,HB6.out.2.2.trans hOn⟩
   clear hTp hOn hC8 hC8' h8 hf8 hv8
   have hN1:((N+1:Nat):Int) - 1=(N:Int):=by omega
   have hN2:wrap64 (N:Int)=(N:Int):=by have:=hl.out;unfold wrap64;omega
   go_wp2
   exact bodyPost_ret (v:=.tuple #[.int .i64 (N:Int),.int .i64 0]) (by simp [results,Tryz.results16,go_sem,hN1,hN2]) rfl ⟨rfl,HF.out⟩
theorem rleaf_any (B tb:Nat) (ns:List Nd) (p p2:Option Addr) (n c n2 c2:Nat) (dd yy:List Int) (hd:RI dd) (w:World) (hT:Tap 41 47 w B tb ns) (h1:Nums .i64 w (.slice p n c) dd) (h2:Nums .i64 w (.slice p2 n2 c2) yy):
  Calls Tryz.prog 16 #[.pointer (some ⟨tb,0,none⟩),.agg #[.slice p n c,.slice p2 n2 c2]] w fun e w'=>e = .returned (.tuple #[.int .i64 (leafR ns dd yy),.int .i64 (leafE ns dd yy)])∧Tap 41 47 w' B tb (leafN ns dd yy)∧Below B w w'∧Only [41,47] w w':=by
 by_cases hf:512≤ns.length
 ·exact rleaf_full B tb ns p p2 n c n2 c2 dd yy hd w hT h1 h2 hf
 ·by_cases hp:isP dd yy
  ·exact rleaf_good B tb ns p p2 n c n2 c2 dd yy hd w hT h1 h2 (by omega) hp
  ·exact rleaf_bad B tb ns p p2 n c n2 c2 dd yy hd w hT h1 h2 (by omega) hp
theorem rdo_full (B tb:Nat) (ns:List Nd) (hG:NodesG ns) (op a b k:Int) (w:World) (hT:Tap 41 47 w B tb ns) (hfull:512≤ns.length):
  Calls Tryz.prog 34 #[.pointer (some ⟨tb,0,none⟩),.int .i64 op,.int .i64 a,.int .i64 b,.int .i64 k] w fun e w'=>e = .returned (.tuple #[.int .i64 (doR ns op a b k),.int .i64 (doE ns op a b k)])∧Tap 41 47 w' B tb (doN ns op a b k)∧Below B w w'∧Only [41,47] w w':=by
 have hTT:Hid (Tap 41 47 w B tb ns):=hT
 obtain ⟨pL,cL,xs0,hv,ho,hn0,hnc⟩:=hT.head
 obtain ⟨N,eN⟩:∃ N,ns.length=N:=⟨_,rfl⟩
 rw [eN] at hv ho hnc
 have hcell:=(head_cell hv).1
 have hz:=heap_lt hv
 have HBB:Hid (B≤w.heap.size):=Nat.le_trans hTT.out.1 (Nat.le_of_lt hz)
 have hl:512≤N:=by rw [← eN];exact hfull
 have hl':(512:Int)≤(N:Int):=by omega
 have e1:doE ns op a b k=2:=if_pos hfull
 have e2:doR ns op a b k=0:=if_neg fun h=>by have:=h.1.1;omega
 have e3:doN ns op a b k=ns:=if_neg fun h=>by have:=h.1.1;omega
 rw [e1,e2,e3]
 clear hT hv ho hn0 hnc e1 e2 e3 hfull eN
 go_enter Tryz.func34,Tryz.ntmps34
 go_wp2
 exact bodyPost_ret (v:=.tuple #[.int .i64 0,.int .i64 2]) (by simp [results,Tryz.results34,go_sem]) rfl ⟨rfl,hTT.out,Below.refl _ _,Only.refl _ _⟩
theorem rdo_bad (B tb:Nat) (ns:List Nd) (hG:NodesG ns) (op a b k:Int) (w:World) (hT:Tap 41 47 w B tb ns) (hroom:ns.length < 512) (hno:¬ okD ns op a b):
  Calls Tryz.prog 34 #[.pointer (some ⟨tb,0,none⟩),.int .i64 op,.int .i64 a,.int .i64 b,.int .i64 k] w fun e w'=>e = .returned (.tuple #[.int .i64 (doR ns op a b k),.int .i64 (doE ns op a b k)])∧Tap 41 47 w' B tb (doN ns op a b k)∧Below B w w'∧Only [41,47] w w':=by
 have hTT:Hid (Tap 41 47 w B tb ns):=hT
 obtain ⟨pL,cL,xs0,hv,ho,hn0,hnc⟩:=hT.head
 obtain ⟨N,eN⟩:∃ N,ns.length=N:=⟨_,rfl⟩
 rw [eN] at hv ho hnc
 have hcell:=(head_cell hv).1
 have hz:=heap_lt hv
 have HBB:Hid (B≤w.heap.size):=Nat.le_trans hTT.out.1 (Nat.le_of_lt hz)
 have hl:Hid (N < 512):=by show _ < _;rw [← eN];exact hroom
 have hd1:decide ((512:Int)≤(N:Int))=false:=decide_eq_false (by have:=hl.out;omega)
 have hd2:decide (512≤N)=false:=decide_eq_false (by have:=hl.out;omega)
 have e1:doE ns op a b k=1:=(if_neg (by omega)).trans (if_neg hno)
 have e2:doR ns op a b k=0:=if_neg fun h=>hno h.1.2
 have e3:doN ns op a b k=ns:=if_neg fun h=>hno h.1.2
 rw [e1,e2,e3]
 have hno:¬ ((2≤op∧op≤14)∧(0≤a∧a < (N:Int))∧(twoP op→0≤b∧b < (N:Int))):=by rw [← eN];exact hno
 clear hT hv ho hn0 hnc e1 e2 e3 hroom eN
 by_cases c1:op < 2
 ·have o1:decide (op < 2)=true:=decide_eq_true c1
  clear c1
  clear hno
  go_enter Tryz.func34,Tryz.ntmps34
  go_wp2
  exact bodyPost_ret (v:=.tuple #[.int .i64 0,.int .i64 1]) (by simp [results,Tryz.results34,go_sem]) rfl ⟨rfl,hTT.out,Below.refl _ _,Only.refl _ _⟩
 have o1:decide (op < 2)=false:=decide_eq_false c1
 by_cases c2:14 < op
 ·have o2:decide (14 < op)=true:=decide_eq_true c2
  clear c1 c2
  clear hno
  go_enter Tryz.func34,Tryz.ntmps34
  go_wp2
  exact bodyPost_ret (v:=.tuple #[.int .i64 0,.int .i64 1]) (by simp [results,Tryz.results34,go_sem]) rfl ⟨rfl,hTT.out,Below.refl _ _,Only.refl _ _⟩
 have o2:decide (14 < op)=false:=decide_eq_false c2
 by_cases c3:a < 0
 ·have a1:decide (a < 0)=true:=decide_eq_true c3
  clear c1 c2 c3
  clear hno
  go_enter Tryz.func34,Tryz.ntmps34
  go_wp2
  exact bodyPost_ret (v:=.tuple #[.int .i64 0,.int .i64 1]) (by simp [results,Tryz.results34,go_sem]) rfl ⟨rfl,hTT.out,Below.refl _ _,Only.refl _ _⟩
 have a1:decide (a < 0)=false:=decide_eq_false c3
 by_cases c4:(N:Int)≤a
 ·have a2:decide ((N:Int)≤a)=true:=decide_eq_true c4
  clear c1 c2 c3 c4
  clear hno
  go_enter Tryz.func34,Tryz.ntmps34
  go_wp2
  exact bodyPost_ret (v:=.tuple #[.int .i64 0,.int .i64 1]) (by simp [results,Tryz.results34,go_sem]) rfl ⟨rfl,hTT.out,Below.refl _ _,Only.refl _ _⟩
 have a2:decide ((N:Int)≤a)=false:=decide_eq_false c4
 have c5:twoP op∧(b < 0∨(N:Int)≤b):=by
  by_cases c5:twoP op
  ·refine ⟨c5,?_⟩
   by_cases c6:b < 0
   ·exact .inl c6
   ·by_cases c7:(N:Int)≤b
    ·exact .inr c7
    ·exact absurd ⟨⟨by omega,by omega⟩,⟨by omega,by omega⟩,fun _=>⟨by omega,by omega⟩⟩ hno
  ·exact absurd ⟨⟨by omega,by omega⟩,⟨by omega,by omega⟩,fun h=>absurd h c5⟩ hno
 have hq:decide (twoP op)=true:=decide_eq_true c5.1
 by_cases c6:b < 0
 ·have b1:decide (b < 0)=true:=decide_eq_true c6
  clear c1 c2 c3 c4 c5 c6
  clear hno
  go_enter Tryz.func34,Tryz.ntmps34
  go_wp2_with fail
  refine (rtwo_any op true hq w).mono ?_
  rintro e w9 ⟨rfl,rfl⟩
  clear hq
  go_wp2
  exact bodyPost_ret (v:=.tuple #[.int .i64 0,.int .i64 1]) (by simp [results,Tryz.results34,go_sem]) rfl ⟨rfl,hTT.out,Below.refl _ _,Only.refl _ _⟩
 ·have b1:decide (b < 0)=false:=decide_eq_false c6
  have b2:decide ((N:Int)≤b)=true:=decide_eq_true (by omega)
  clear c1 c2 c3 c4 c5 c6
  clear hno
  go_enter Tryz.func34,Tryz.ntmps34
  go_wp2_with fail
  refine (rtwo_any op true hq w).mono ?_
  rintro e w9 ⟨rfl,rfl⟩
  clear hq
  go_wp2
  exact bodyPost_ret (v:=.tuple #[.int .i64 0,.int .i64 1]) (by simp [results,Tryz.results34,go_sem]) rfl ⟨rfl,hTT.out,Below.refl _ _,Only.refl _ _⟩
end Go.Proofs.YtpdkkcnmgiihcaaGreatDoor.Wd
