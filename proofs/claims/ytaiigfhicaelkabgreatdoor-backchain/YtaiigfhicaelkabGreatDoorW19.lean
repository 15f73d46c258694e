/- The code's tape: its small functions, a copy of a tensor, a node more, Leaf. · The code's At and Value. · The code's give: what a gradient of a node gives for its two. · The code's One. · The code's sweep: its object, add. · The code's sweep: a node gives on. -/
import Derived.Test.YtaiigfhicaelkabGreatDoorW13
import Derived.Test.YtaiigfhicaelkabGreatDoorW09
import Derived.Test.YtaiigfhicaelkabGreatDoorW18
import Derived.Test.YtaiigfhicaelkabGreatDoorW15
set_option linter.unusedVariables false
set_option linter.unusedSimpArgs false
set_option maxHeartbeats 16000000
set_option maxRecDepth 16000
namespace Go.Proofs.YtaiigfhicaelkabGreatDoor.Wd
open Go.RowKit Fx
def TapC (W:World) (B b:Nat) (ns:List Nd):Prop:=Tap 53 58 W B b ns
abbrev SC:List TypeId:=[53,58]
theorem TapC.up {W W':World} {B b:Nat} {ns:List Nd} (h:TapC W B b ns) (hB:Below W.heap.size W W'):TapC W' B b ns:=Tap.up h hB
theorem ne_ct:58≠53:=by decide
def Spare (tb:Nat) (w w':World):Prop:=∀ x v,w.heap[tb]?=some (.cells #[v] 53 (0,0))→x≠tb→x < w.heap.size→v.ownBlock≠some x→w'.heap[x]?=w.heap[x]?∧∃ v',w'.heap[tb]?=some (.cells #[v'] 53 (0,0))∧v'.ownBlock≠some x
theorem Spare.of {tb:Nat} {w w':World} (h:Below w.heap.size w w'):Spare tb w w':=fun x v hv _ hx ho=>⟨h.block x hx,v,(h.block tb (heap_lt hv)).trans hv,ho⟩
theorem Spare.trans {tb:Nat} {a b c:World} (h:Spare tb a b) (h2:Spare tb b c):Spare tb a c:=fun x v hv hn hx ho=>by
 obtain ⟨e1,v',hv',ho'⟩:=h x v hv hn hx ho
 have hb:x < b.heap.size:=by
  rw [Array.getElem?_eq_getElem hx] at e1
  exact heap_lt e1
 obtain ⟨e2,r⟩:=h2 x v' hv' hn hb ho'
 exact ⟨e2.trans e1,r⟩
/-- A row of nodes of one's own, and where it lies. -/
def OwnL (e:TypeId) (B n:Nat) (xs:List Value) (r:Option Nat) (H:Nat) (v:Value) (W:World):Prop:=OwnN e B n xs v W∧∃ g c,v = .slice (some ⟨g,0,none⟩) n c∧(r=some g∨H≤g)
theorem OwnL.up {e:TypeId} {B n:Nat} {xs:List Value} {r:Option Nat} {H:Nat} {v:Value} {W W':World} (h:OwnL e B n xs r H v W) (hB:Below W.heap.size W W'):OwnL e B n xs r H v W':=⟨OwnN.up h.1 hB,h.2⟩
theorem nodeC:StT Tryz.prog 51 58 80:=⟨Tryz.underlying51,by kernel_rfl⟩
/-- append of one node that a literal holds, and where the row lies then. -/
theorem appL {P:Program} {t e:TypeId} {b:Nat} (T:StT P t e b) (hb:b≤128) (ty:TypeId) (W:World) (B:Nat) (v:Value) (n:Nat) (xs:List Value) (ho:W.ownsRow B e 6 v n xs) (g:Nat) (u:List Value) (hg:W.heap[g]?=some (.cells u.toArray e (0,0))) (hu:u.length=6) (h1:∀ x∈u,x.oneCell'=true) (hn:n+1≤1073741824) (hB:B≤W.heap.size):
  ∃ g' cap w',(Builtin.append_ #[t,t] ty #[v,.slice (some ⟨g,0,none⟩) 1 1]).run P W = .ok (.slice (some ⟨g',0,none⟩) (n+1) cap) w'∧w'.ownsRow B e 6 (.slice (some ⟨g',0,none⟩) (n+1) cap) (n+1) (xs++u)∧W.grownBy w' v.ownBlock∧(v.ownBlock=some g'∨g'=W.heap.size):=by
 have hi:=T.hi
 cases h:P.info? e with
 | none=>rw [h] at hi;cases hi
 | some i=>
  rw [h] at hi
  simp only [Option.map_some,Option.some.injEq,Prod.mk.injEq] at hi
  obtain ⟨hz,hs,hby⟩:=hi
  cases hz0:i.zero with
  | none=>rw [hz0] at hz;cases hz
  | some z=>
   rw [hz0] at hz
   simp only [Option.map_some,Option.some.injEq] at hz
   have hm:(n+1)*b≤1073741824*128:=Nat.mul_le_mul hn hb
   obtain ⟨g',cap,w',hr,h2,h3,h4,_⟩:=run_append_lies (P:=P) W t ty B e i z 6 b T.ht h hz0 hs hby hz (by decide) v n xs ho ⟨g,0,none⟩ 1 1 u (by omega) (fun j x hj=>by
    rw [addr_plus,Nat.zero_add]
    unfold World.cell?
    simpa [hg] using hj) h1 (by omega) (by unfold maxLen;omega) (by omega) hB _ rfl
   exact ⟨g',cap,w',hr,h2,h3,h4⟩
theorem cnew_any (w:World):Calls Tryz.prog 6 #[] w fun e w'=>∃ b,e = .returned (.pointer (some ⟨b,0,none⟩))∧TapC w' w.heap.size b []∧Below w.heap.size w w':=by
 go_enter Tryz.func6,Tryz.ntmps6
 go_wp2
 exact bodyPost_ret (v:=.pointer (some ⟨w.heap.size,0,none⟩)) (by simp [results,Tryz.results6,go_sem]) rfl ⟨_,rfl,Tap.new (Nat.le_refl _),up_alloc _ _⟩
theorem cfull_any (B tb:Nat) (ns:List Nd) (q:Bool) (hq:decide (512≤ns.length)=q) (w:World) (hT:TapC w B tb ns):Calls Tryz.prog 17 #[.pointer (some ⟨tb,0,none⟩)] w fun e w'=>e = .returned (.bool q)∧w'=w:=by
 have hTT:Hid (TapC w B tb ns):=hT
 obtain ⟨pL,cL,xs0,hv,ho,hn0,hnc⟩:=Tap.head hT
 obtain ⟨N,eN⟩:∃ N,ns.length=N:=⟨_,rfl⟩
 rw [eN] at hv ho hnc
 have hcell:=(head_cell hv).1
 have hz:=heap_lt hv
 rw [eN] at hq
 have hq2:decide ((512:Int)≤(N:Int))=q:=by rw [← hq];exact decide_eq_decide.2 (by omega)
 clear hT hTT hv ho hn0 hnc eN
 go_enter Tryz.func17,Tryz.ntmps17
 go_wp2
 go_ret
 exact ⟨rfl,rfl⟩
theorem chas_any (B tb:Nat) (ns:List Nd) (i:Int) (q:Bool) (hq:decide (0≤i∧i < (ns.length:Int))=q) (w:World) (hT:TapC w B tb ns):Calls Tryz.prog 21 #[.pointer (some ⟨tb,0,none⟩),.int .i64 i] w fun e w'=>e = .returned (.bool q)∧w'=w:=by
 have hTT:Hid (TapC w B tb ns):=hT
 obtain ⟨pL,cL,xs0,hv,ho,hn0,hnc⟩:=Tap.head hT
 obtain ⟨N,eN⟩:∃ N,ns.length=N:=⟨_,rfl⟩
 rw [eN] at hv ho hnc
 have hcell:=(head_cell hv).1
 have hz:=heap_lt hv
 rw [eN] at hq
 clear hT hTT hv ho hn0 hnc eN
 by_cases h0:i < 0
 ·have hq':q=false:=by rw [← hq];exact decide_eq_false (by omega)
  subst hq'
  have d1:decide (0≤i)=false:=decide_eq_false (by omega)
  clear hq h0
  go_enter Tryz.func21,Tryz.ntmps21
  go_wp2
  go_ret
  exact ⟨rfl,rfl⟩
 ·have d1:decide (0≤i)=true:=decide_eq_true (by omega)
  have d2:decide (i < (N:Int))=q:=by rw [← hq];exact decide_eq_decide.2 (by omega)
  clear hq h0
  go_enter Tryz.func21,Tryz.ntmps21
  go_wp2
  go_ret
  exact ⟨rfl,rfl⟩
theorem chasb_any (op:Int) (q:Bool) (hq:decide (twoP op)=q) (w:World):
  Calls Tryz.prog 22 #[.int .i64 op] w fun e w'=>e = .returned (.bool q)∧w'=w:=by
 by_cases h2:op=2
 ·subst h2
  have hq':q=true:=by rw [← hq];decide
  subst hq'
  clear hq
  go_enter Tryz.func22,Tryz.ntmps22
  go_wp2
  go_ret
  exact ⟨rfl,rfl⟩
 by_cases h3:op=3
 ·subst h3
  have hq':q=true:=by rw [← hq];decide
  subst hq'
  clear hq
  go_enter Tryz.func22,Tryz.ntmps22
  go_wp2
  go_ret
  exact ⟨rfl,rfl⟩
 by_cases h4:op=4
 ·subst h4
  have hq':q=true:=by rw [← hq];decide
  subst hq'
  clear hq
  go_enter Tryz.func22,Tryz.ntmps22
  go_wp2
  go_ret
  exact ⟨rfl,rfl⟩
 by_cases h6:op=6
 ·subst h6
  have hq':q=true:=by rw [← hq];decide
  subst hq'
  clear hq
  go_enter Tryz.func22,Tryz.ntmps22
  go_wp2
  go_ret
  exact ⟨rfl,rfl⟩
 by_cases h12:op=12
 ·subst h12
  have hq':q=true:=by rw [← hq];decide
  subst hq'
  clear hq
  go_enter Tryz.func22,Tryz.ntmps22
  go_wp2
  go_ret
  exact ⟨rfl,rfl⟩
 have g2:(op==2)=false:=by simpa using h2
 have g3:(op==3)=false:=by simpa using h3
 have g4:(op==4)=false:=by simpa using h4
 have g6:(op==6)=false:=by simpa using h6
 have g12:(op==12)=false:=by simpa using h12
 have hq':q=false:=by rw [← hq];exact decide_eq_false (by omega)
 subst hq'
 clear hq h2 h3 h4 h6 h12
 go_enter Tryz.func22,Tryz.ntmps22
 go_wp2
 go_ret
 exact ⟨rfl,rfl⟩
theorem chask_any (op:Int) (q:Bool) (hq:decide (byP op)=q) (w:World):
  Calls Tryz.prog 23 #[.int .i64 op] w fun e w'=>e = .returned (.bool q)∧w'=w:=by
 by_cases h5:op=5
 ·subst h5
  have hq':q=true:=by rw [← hq];decide
  subst hq'
  clear hq
  go_enter Tryz.func23,Tryz.ntmps23
  go_wp2
  go_ret
  exact ⟨rfl,rfl⟩
 by_cases h8:op=8
 ·subst h8
  have hq':q=true:=by rw [← hq];decide
  subst hq'
  clear hq
  go_enter Tryz.func23,Tryz.ntmps23
  go_wp2
  go_ret
  exact ⟨rfl,rfl⟩
 by_cases h11:op=11
 ·subst h11
  have hq':q=true:=by rw [← hq];decide
  subst hq'
  clear hq
  go_enter Tryz.func23,Tryz.ntmps23
  go_wp2
  go_ret
  exact ⟨rfl,rfl⟩
 by_cases h12:op=12
 ·subst h12
  have hq':q=true:=by rw [← hq];decide
  subst hq'
  clear hq
  go_enter Tryz.func23,Tryz.ntmps23
  go_wp2
  go_ret
  exact ⟨rfl,rfl⟩
 by_cases h13:op=13
 ·subst h13
  have hq':q=true:=by rw [← hq];decide
  subst hq'
  clear hq
  go_enter Tryz.func23,Tryz.ntmps23
  go_wp2
  go_ret
  exact ⟨rfl,rfl⟩
 have g5:(op==5)=false:=by simpa using h5
 have g8:(op==8)=false:=by simpa using h8
 have g11:(op==11)=false:=by simpa using h11
 have g12:(op==12)=false:=by simpa using h12
 have g13:(op==13)=false:=by simpa using h13
 have hq':q=false:=by rw [← hq];exact decide_eq_false (by omega)
 subst hq'
 clear hq h5 h8 h11 h12 h13
 go_enter Tryz.func23,Tryz.ntmps23
 go_wp2
 go_ret
 exact ⟨rfl,rfl⟩
theorem below_two {B:Nat} {a b c:World} (h:Below B a b) (h2:Below B b c):Below B a c:=h.trans h2
theorem ccopied_any (p p2:Option Addr) (n c n2 c2:Nat) (dd yy:List Int) (hg:isP dd yy) (w:World) (h1:Nums .i64 w (.slice p n c) dd) (h2:Nums .i64 w (.slice p2 n2 c2) yy):
  Calls Tryz.prog 20 #[.agg #[.slice p n c,.slice p2 n2 c2]] w fun e w'=>∃ v,e = .returned v∧TRes w' w.heap.size v dd yy∧Below w.heap.size w w':=by
 have hl1:dd.length≤1073741824:=by have:=hg.1.1;rw [ntl_len] at this;omega
 have hl2:yy.length≤1073741824:=by have h3:=hg.1.2.2;have h4:=hg.2;omega
 have CI:Hid (∀ W,Below w.heap.size w W→Calls Tryz.prog 40 #[.slice p n c] W fun e w'=>∃ v',e = .returned v'∧OwnK .i64 3 w' W.heap.size v' dd∧Below W.heap.size W w'):=fun W hW=>cloneI_any _ dd (by omega) W (h1.up hW)
 have CF:Hid (∀ W,Below w.heap.size w W→Calls Tryz.prog 41 #[.slice p2 n2 c2] W fun e w'=>∃ v',e = .returned v'∧OwnK .i64 22 w' W.heap.size v' yy∧Below W.heap.size W w'):=fun W hW=>cloneF_any _ yy (by omega) W (h2.up hW)
 haveI:Nonempty World:=⟨w⟩
 clear h1 h2 hl1 hl2 hg
 go_enter Tryz.func20,Tryz.ntmps20
 go_wp2_with fail
 generalize hW0:World.alloc _ _=W0
 have HB0:=hidB (w:=w) hW0 (by go_grown)
 have XA:Hid (Cel W0 w.heap.size (.slice p n c) (.slice p2 n2 c2)):=celW hW0 (by simp [go_sem])
 have XR:Hid (Cel W0 (w.heap.size+1) (.slice none 0 0) (.slice none 0 0)):=celW hW0 (by simp [go_sem])
 clear hW0
 obtain ⟨a0,a1,_,_⟩:=XA.out
 have k0:=cell_lt a0
 refine rel [⟨2,5,fun v W=>OwnK .i64 3 W W0.heap.size v dd⟩,⟨5,8,fun v W=>OwnK .i64 22 W W0.heap.size v yy⟩,⟨6,9,OwnT W0.heap.size dd yy⟩] 7 10 (by kernel_rfl) rfl rfl (by kernel_rfl) (by rfl) ?_ ?_
 ·intro e he v W W' h hb
  simp only [List.mem_cons,List.not_mem_nil,or_false] at he
  rcases he with rfl|rfl|rfl
  ·exact OwnK.up h hb
  ·exact OwnK.up h hb
  ·exact OwnT.up h hb
 apply Exists.intro
 refine ⟨fun x=>?_,?_,?_⟩
 ·simp only [List.take_succ_cons,List.take_zero]
  iterate 2
   refine relQuiet rfl rfl ?_
   apply Exists.intro
   refine ⟨fun F hF hf K hK=>?_,?_⟩
   ·have hFc:=hF.cell
    have hFf:=hF.frozen
    go_big_quiet_op
    exact hK
   (try simp only [putL])
  refine relTold rfl rfl ?_ ?_
  ·intro F hF hf d
   have hFc:=hF.cell
   have hFf:=hF.frozen
   simp [yieldsR,yieldsUpon,go_sem]
   refine (CI.out (F d) (bstep HB0.out (hF.below d))).mono ?_
   rintro e' w8 ⟨v8,rfl,h8,hb8⟩
   exact ⟨_,rfl,h8.low (hF.below d).size,hb8⟩
  iterate 2
   (try simp only [putL])
   refine relQuiet rfl rfl ?_
   apply Exists.intro
   refine ⟨fun F hF hf K hK=>?_,?_⟩
   ·have hFc:=hF.cell
    have hFf:=hF.frozen
    go_big_quiet_op
    exact hK
  (try simp only [putL])
  refine relTold rfl rfl ?_ ?_
  ·intro F hF hf d
   have hFc:=hF.cell
   have hFf:=hF.frozen
   simp [yieldsR,yieldsUpon,go_sem]
   refine (CF.out (F d) (bstep HB0.out (hF.below d))).mono ?_
   rintro e' w8 ⟨v8,rfl,h8,hb8⟩
   exact ⟨_,rfl,h8.low (hF.below d).size,hb8⟩
  (try simp only [putL])
  refine relTold rfl rfl ?_ ?_
  ·intro F hF hf d
   have hFc:=hF.cell
   have hFf:=hF.frozen
   have h9:OwnK .i64 3 (F d) W0.heap.size (x 2) dd:=hf _ List.mem_cons_self (by rfl) d
   have h8:OwnK .i64 22 (F d) W0.heap.size (x 5) yy:=hf _ (List.mem_cons_of_mem _ List.mem_cons_self) (by rfl) d
   obtain ⟨p9,n9,c9,e9⟩:=h9.form_
   obtain ⟨p8,n8,c8,e8⟩:=h8.form_
   rw [e9] at h9
   rw [e8] at h8
   simp [yieldsR,yieldsUpon,go_sem,e9,e8]
   exact ⟨⟨_,_,_,_,_,_,rfl,h9,h8⟩,Below.refl _ _⟩
  (try simp only [putL])
  refine relEnd ?_
  exact rfl
 ·exact fun x=>rfl
 ·intro w1 xs hB1 hf
  simp only [List.drop_succ_cons,List.drop_zero]
  have hT1:=hf _ (List.mem_cons_of_mem _ (List.mem_cons_of_mem _ List.mem_cons_self))
  obtain ⟨x2,e2⟩:∃ q,xs 2=q:=⟨_,rfl⟩
  obtain ⟨x5,e5⟩:∃ q,xs 5=q:=⟨_,rfl⟩
  obtain ⟨x6,e6⟩:∃ q,xs 6=q:=⟨_,rfl⟩
  simp only [e6] at hT1
  simp only [e2,e5,e6]
  obtain ⟨pa,na,ca,pb,nb,cb,rfl,hs,ht⟩:=hT1
  clear e2 e5 e6 hf CI CF a0 a1 k0
  obtain ⟨HF,r0,r1,r2,r3,z0,z1⟩:=fin2 XR HB0 hB1 hs ht (by omega)
  clear hs ht
  go_wp2
  exact bodyPost_ret (v:=.agg #[.slice pa na ca,.slice pb nb cb]) (by simp [results,Tryz.results20,go_sem,z0,z1]) rfl ⟨_,rfl,HF.out⟩
theorem ckeep_sp (B tb:Nat) (ns:List Nd) (nd:Nd) (pa pb:Option Addr) (na ca nb cb:Nat) (hroom:ns.length < 512) (w:World) (hT:TapC w B tb ns) (hs:OwnK .i64 3 w B (.slice pa na ca) nd.D) (ht:OwnK .i64 22 w B (.slice pb nb cb) nd.X):
  Calls Tryz.prog 19 #[.pointer (some ⟨tb,0,none⟩),.agg #[.int .i64 nd.op,.int .i64 nd.a,.int .i64 nd.b,.int .i64 nd.k,.slice pa na ca,.slice pb nb cb]] w fun e w'=>e = .returned (.int .i64 (ns.length:Int))∧TapC w' B tb (ns++[nd])∧Below B w w'∧Only SC w w'∧Spare tb w w':=by
 obtain ⟨op,a,bb,k,D,X⟩:=nd
 have hTT:Hid (TapC w B tb ns):=hT
 obtain ⟨pL,cL,xs0,hv,ho,hn0,hnc⟩:=Tap.head hT
 obtain ⟨N,eN⟩:∃ N,ns.length=N:=⟨_,rfl⟩
 rw [eN] at hv ho hnc
 have hcell:=(head_cell hv).1
 have hz:=heap_lt hv
 rw [eN]
 have hl:Hid (N < 512):=by show _ < _;rw [← eN];exact hroom
 have HBB:Hid (B≤w.heap.size):=Nat.le_trans hTT.out.1 (Nat.le_of_lt hz)
 have HS:Hid (OwnK .i64 3 w B (.slice pa na ca) D∧OwnK .i64 22 w B (.slice pb nb cb) X):=⟨hs,ht⟩
 clear hT hv ho hn0 hnc hs ht hroom hcell hz cL xs0 pL
 go_enter Tryz.func19,Tryz.ntmps19
 go_wp2_with fail
 refine name_world (fun w6 hw6=>?_)
 have HN6:w6.heap[w.heap.size]?=some (.cells #[.int .i64 op,.int .i64 a,.int .i64 bb,.int .i64 k,.slice pa na ca,.slice pb nb cb] 58 (0,0)):=by rw [hw6];exact heap_alloc_new _ _
 have HB6a:Below w.heap.size w w6:=by rw [hw6];exact up_alloc _ _
 have HB6:Hid (Below B w w6∧B≤w6.heap.size∧Only SC w w6∧Spare tb w w6):=⟨HB6a.mono HBB.out,Nat.le_trans HBB.out HB6a.size,Only.of HB6a,Spare.of HB6a⟩
 have HND6:Hid (NdC w6 B ⟨op,a,bb,k,D,X⟩ [.int .i64 op,.int .i64 a,.int .i64 bb,.int .i64 k,.slice pa na ca,.slice pb nb cb]):=⟨_,_,rfl,HS.out.1.up HB6a,HS.out.2.up HB6a⟩
 have HT6:=hTT.out.up HB6a
 obtain ⟨pL,cL,xs0,hv,ho,hn0,hnc⟩:=Tap.head HT6
 rw [eN] at hv ho
 have HTP:Hid (B≤tb∧w6.heap[tb]?=some (.cells #[.slice pL N cL] 53 (0,0))∧ns.length=N∧w6.ownsRow B 58 6 (.slice pL N cL) N xs0∧NdsC w6 B ns xs0):=⟨hTT.out.1,hv,eN,ho,hn0⟩
 have hrow:∀ z,Value.ownBlock (.slice pL N cL)=some z→z < w.heap.size:=fun z hz'=>by
  have h3:=hTT.out
  obtain ⟨pL',cL',xs',hv',ho',_,_⟩:=Tap.head h3
  rw [eN] at hv' ho'
  have h4:=HB6a.block tb (heap_lt hv')
  rw [hv,hv'] at h4
  cases h4
  exact (World.ownsRow.lt ho' z hz').2
 have HX6:Hid (w6.heap[w.heap.size]?=some (.cells #[.int .i64 op,.int .i64 a,.int .i64 bb,.int .i64 k,.slice pa na ca,.slice pb nb cb] 58 (0,0))∧some w.heap.size≠Value.ownBlock (.slice pL N cL)):=⟨HN6,fun h=>by have:=hrow _ h.symm;omega⟩
 have HRW:Hid (∀ z,Value.ownBlock (.slice pL N cL)=some z→z < w6.heap.size):=fun z hz'=>Nat.lt_of_lt_of_le (hrow z hz') HB6a.size
 have HU1:Hid (∀ z∈([.int .i64 op,.int .i64 a,.int .i64 bb,.int .i64 k,.slice pa na ca,.slice pb nb cb]:List Value),z.oneCell'=true):=HND6.out.one
 clear hv ho hn0 hnc hrow hw6 HT6 HB6a HN6 HS
 refine from_region (by kernel_rfl) ?_
 refine seg (fun q W=>match q with|false=>Below w6.heap.size w6 W|true=>w6.grownBy W (Value.ownBlock (.slice pL N cL))) (fun W W'=>W.grownBy W' (Value.ownBlock (.slice pL N cL))) 7 [⟨6,11,LitS 58 w6.heap.size [.int .i64 op,.int .i64 a,.int .i64 bb,.int .i64 k,.slice pa na ca,.slice pb nb cb]⟩,⟨7,12,OwnL 58 B (N+1) (xs0++[.int .i64 op,.int .i64 a,.int .i64 bb,.int .i64 k,.slice pa na ca,.slice pb nb cb]) (Value.ownBlock (.slice pL N cL)) w6.heap.size⟩] 0 10 21 rfl rfl (by kernel_rfl) (by rfl) ?_ ?_ ?_ ?_ ?_ ?_
 ·intro q W W' h hb
  cases q
  ·exact bstep h hb
  ·exact grown_up h hb
 ·exact ⟨rfl,rfl,rfl,Nat.le_refl _,fun _ _=>rfl⟩
 ·exact .inl ⟨_,List.mem_cons_of_mem _ List.mem_cons_self,rfl⟩
 ·intro e he v W W' h hb
  simp only [List.mem_cons,List.not_mem_nil,or_false] at he
  rcases he with rfl|rfl
  ·exact LitS.up h hb
  ·exact OwnL.up h hb
 ·intro e he hne v W W' h hc ht
  simp only [List.mem_cons,List.not_mem_nil,or_false] at he
  rcases he with rfl|rfl
  ·exact LitS.grown h ht HRW.out
  ·exact absurd rfl hne
 apply Exists.intro
 refine ⟨fun x=>?_,?_,?_⟩
 ·simp only [List.drop_succ_cons,List.drop_zero,List.take_succ_cons,List.take_zero]
  iterate 4
   refine segQuiet rfl rfl ?_
   apply Exists.intro
   refine ⟨fun b F hF hf K hK=>?_,?_⟩
   ·have hFc:=hF.cls
    go_big_quiet_op
    exact hK
   (try simp only [putL])
  refine segQuiet rfl rfl ?_
  apply Exists.intro
  refine ⟨fun b F hF hf K hK=>?_,?_⟩
  ·have hFc:=hF.cls
   have q0:∀ d,(F d).cell? ⟨tb,0,none⟩=some (.slice pL N cL):=fun d=>by
    have hK:w6.grownBy (F d) (Value.ownBlock (.slice pL N cL)):=by
     cases b
     ·exact below_grown _ (hFc d)
     ·exact hFc d
    exact hK.cell (head_cell HTP.out.2.1).1 (Ne.symm (owned_off ne_ct HTP.out.2.1 HTP.out.2.2.2.1))
   clear hFc
   go_big_quiet_op
   exact hK
  (try simp only [putL])
  refine segQuiet rfl rfl ?_
  apply Exists.intro
  refine ⟨fun b F hF hf K hK=>?_,?_⟩
  ·have hFc:=hF.cls
   have q0:∀ d,(F d).heap[w.heap.size]?=some (.cells #[.int .i64 op,.int .i64 a,.int .i64 bb,.int .i64 k,.slice pa na ca,.slice pb nb cb] 58 (0,0)):=fun d=>by
    have hK:w6.grownBy (F d) (Value.ownBlock (.slice pL N cL)):=by
     cases b
     ·exact below_grown _ (hFc d)
     ·exact hFc d
    rw [hK.block _ (heap_lt HX6.out.1) HX6.out.2]
    exact HX6.out.1
   have q1:=fun d=>(box6 (q0 d)).1.1
   have q2:=fun d=>(box6 (q0 d)).1.2.1
   have q3:=fun d=>(box6 (q0 d)).1.2.2.1
   have q4:=fun d=>(box6 (q0 d)).1.2.2.2.1
   have q5:=fun d=>(box6 (q0 d)).1.2.2.2.2.1
   have q6:=fun d=>(box6 (q0 d)).1.2.2.2.2.2
   clear hFc q0
   go_big_quiet_op
   exact hK
  (try simp only [putL])
  refine segTold rfl (by decide) rfl ?_ ?_
  ·intro b F hF hf d
   have hFc:=hF.cls
   have hcls:w6.heap.size≤(F d).heap.size:=by
    cases b
    ·exact (hFc d).size
    ·exact (hFc d).size
   simp [yieldsR,yieldsUpon,go_sem]
   exact ⟨⟨(F d).heap.size,rfl,heap_alloc_new (F d) _,hcls⟩,up_alloc _ _⟩
  (try simp only [putL])
  refine segBusy rfl rfl rfl ?_ ?_
  ·intro W hW hf
   have h7:=hf _ List.mem_cons_self (by rfl) W
   obtain ⟨g7,e7,hg7,_⟩:=h7
   simp only [] at e7
   obtain ⟨g8,c8,w8,hr8,ho8,hgr8,hat8⟩:=appL nodeC (by decide) 51 W B (.slice pL N cL) N xs0 (owns_only (S:=[]) HTP.out.2.2.2.1 (Only.of hW) (by simp)) g7 [.int .i64 op,.int .i64 a,.int .i64 bb,.int .i64 k,.slice pa na ca,.slice pb nb cb] hg7 rfl HU1.out (by have:=hl.out;omega) (Nat.le_trans HTP.out.1 (Nat.le_trans (Nat.le_of_lt (heap_lt HTP.out.2.1)) (Below.size hW)))
   simp [leavesR,leavesUpon,execOp,resolve,invoke,builtin,Act.eval,e7,hr8,Result.andThen]
   exact ⟨⟨ho8,g8,c8,rfl,hat8.imp id fun e=>by rw [e];exact Below.size hW⟩,grown_trans (below_grown _ hW) hgr8,hgr8⟩
  iterate 2
   (try simp only [putL])
   refine segQuiet rfl rfl ?_
   apply Exists.intro
   refine ⟨fun b F hF hf K hK=>?_,?_⟩
   ·have hFc:=hF.cls
    go_big_quiet_op
    exact hK
  (try simp only [putL])
  refine segEnd ?_
  exact rfl
 ·exact fun x=>rfl
 ·intro w8 xs8 hC8 hf8
  have hC8':w6.grownBy w8 (Value.ownBlock (.slice pL N cL)):=hC8
  refine from_list 10 (by kernel_rfl) ?_
  simp only [List.drop_succ_cons,List.drop_zero]
  have h8:=hf8 _ (List.mem_cons_of_mem _ List.mem_cons_self)
  obtain ⟨x6,e6⟩:∃ z,xs8 6=z:=⟨_,rfl⟩
  obtain ⟨x7,e7⟩:∃ z,xs8 7=z:=⟨_,rfl⟩
  simp only [e7] at h8
  simp only [e6,e7]
  obtain ⟨h8,g8,c8,rfl,hat8⟩:=h8
  obtain ⟨hTp,hOn⟩:=Tap.push (TT:=53) (NT:=58) ne_ct (by decide) (by decide) (nd:=⟨op,a,bb,k,D,X⟩) HTP.out.1 HTP.out.2.1 (by rw [HTP.out.2.2.1];exact HTP.out.2.2.2.1) HTP.out.2.2.2.2 HND6.out hC8' (by rw [HTP.out.2.2.1];exact h8)
  have hv8:w8.heap[tb]?=some (.cells #[.slice pL N cL] 53 (0,0)):=by
   rw [hC8'.block tb (heap_lt HTP.out.2.1) (Ne.symm (owned_off ne_ct HTP.out.2.1 HTP.out.2.2.2.1))]
   exact HTP.out.2.1
  obtain ⟨r0,r1⟩:=head_cell hv8
  have z0:=(head_cell (v:=.slice (some ⟨g8,0,none⟩) (N+1) c8) (e:=53) (W:=w8.setCell ⟨tb,0,none⟩ (.slice (some ⟨g8,0,none⟩) (N+1) c8)) (by rw [heap_setat hv8];rfl)).1
  have HF:Hid (TapC (w8.setCell ⟨tb,0,none⟩ (.slice (some ⟨g8,0,none⟩) (N+1) c8)) B tb (ns++[⟨op,a,bb,k,D,X⟩])∧Below B w (w8.setCell ⟨tb,0,none⟩ (.slice (some ⟨g8,0,none⟩) (N+1) c8))∧Only SC w (w8.setCell ⟨tb,0,none⟩ (.slice (some ⟨g8,0,none⟩) (N+1) c8))∧Spare tb w (w8.setCell ⟨tb,0,none⟩ (.slice (some ⟨g8,0,none⟩) (N+1) c8))):=by
   refine ⟨hTp,(Below.grown HB6.out.1 hC8' HB6.out.2.1 (OwnN_block HTP.out.2.2.2.1)).setCell (p:=⟨tb,0,none⟩) HTP.out.1 _,HB6.out.2.2.1.trans hOn,HB6.out.2.2.2.trans ?_⟩
   intro x v hv hn hx ho
   rw [HTP.out.2.1] at hv
   cases hv
   refine ⟨?_,_,(heap_setat hv8).trans rfl,?_⟩
   ·rw [heap_set _ _ _ _ _ hn]
    exact hC8'.block x hx (Ne.symm ho)
   ·intro e
    have e':g8=x:=by simpa [Value.ownBlock] using e
    rcases hat8 with h|h
    ·exact ho (by rw [h,e'])
    ·omega
  clear hTp hOn hC8 hC8' h8 hf8 hv8 hat8
  have hN1:((N+1:Nat):Int) - 1=(N:Int):=by omega
  have hN2:wrap64 (N:Int)=(N:Int):=by have:=hl.out;unfold wrap64;omega
  go_wp2
  exact bodyPost_ret (v:=.int .i64 (N:Int)) (by simp [results,Tryz.results19,go_sem,hN1,hN2]) rfl ⟨rfl,HF.out⟩
theorem cleaf_full (B tb:Nat) (ns:List Nd) (p p2:Option Addr) (n c n2 c2:Nat) (dd yy:List Int) (hd:RI dd) (w:World) (hT:TapC w B tb ns) (h1:Nums .i64 w (.slice p n c) dd) (h2:Nums .i64 w (.slice p2 n2 c2) yy) (hfull:512≤ns.length):
  Calls Tryz.prog 7 #[.pointer (some ⟨tb,0,none⟩),.agg #[.slice p n c,.slice p2 n2 c2]] w fun e w'=>e = .returned (.tuple #[.int .i64 (leafR ns dd yy),.int .i64 (leafE ns dd yy)])∧TapC w' B tb (leafN ns dd yy)∧Below B w w'∧Only SC w w':=by
 have HBB:Hid (B≤w.heap.size):=Nat.le_trans hT.1 (Nat.le_of_lt (by obtain ⟨_,_,_,hv,_⟩:=Tap.head hT;exact heap_lt hv))
 have hTT:Hid (TapC w B tb ns):=hT
 have HN:Hid (Nums .i64 w (.slice p n c) dd∧Nums .i64 w (.slice p2 n2 c2) yy∧RI dd):=⟨h1,h2,hd⟩
 have hf:decide (512≤ns.length)=true:=decide_eq_true hfull
 have e1:leafE ns dd yy=2:=if_pos hfull
 have e2:leafR ns dd yy=0:=if_neg fun h=>by omega
 have e3:leafN ns dd yy=ns:=if_neg fun h=>by omega
 rw [e1,e2,e3]
 clear hT e1 e2 e3 h1 h2 hd hfull
 go_enter Tryz.func7,Tryz.ntmps7
 go_wp2_with fail
 generalize hW0:World.alloc _ _=W0
 have HB0:=hidB (w:=w) hW0 (by go_grown)
 have XA:Hid (Cel W0 w.heap.size (.slice p n c) (.slice p2 n2 c2)):=celW hW0 (by simp [go_sem])
 clear hW0
 refine (cfull_any B tb ns true hf W0 (hTT.out.up HB0.out)).mono ?_
 rintro e w1 ⟨rfl,ew1⟩
 subst ew1
 clear hf
 go_wp2
 exact bodyPost_ret (v:=.tuple #[.int .i64 0,.int .i64 2]) (by simp [results,Tryz.results7,go_sem]) rfl ⟨rfl,hTT.out.up HB0.out,HB0.out.mono HBB.out,Only.of HB0.out⟩
theorem cleaf_bad (B tb:Nat) (ns:List Nd) (p p2:Option Addr) (n c n2 c2:Nat) (dd yy:List Int) (hd:RI dd) (w:World) (hT:TapC w B tb ns) (h1:Nums .i64 w (.slice p n c) dd) (h2:Nums .i64 w (.slice p2 n2 c2) yy) (hroom:ns.length < 512) (hp:¬ isP dd yy):
  Calls Tryz.prog 7 #[.pointer (some ⟨tb,0,none⟩),.agg #[.slice p n c,.slice p2 n2 c2]] w fun e w'=>e = .returned (.tuple #[.int .i64 (leafR ns dd yy),.int .i64 (leafE ns dd yy)])∧TapC w' B tb (leafN ns dd yy)∧Below B w w'∧Only SC w w':=by
 have HBB:Hid (B≤w.heap.size):=Nat.le_trans hT.1 (Nat.le_of_lt (by obtain ⟨_,_,_,hv,_⟩:=Tap.head hT;exact heap_lt hv))
 have hTT:Hid (TapC w B tb ns):=hT
 have HN:Hid (Nums .i64 w (.slice p n c) dd∧Nums .i64 w (.slice p2 n2 c2) yy∧RI dd):=⟨h1,h2,hd⟩
 have hf:decide (512≤ns.length)=false:=decide_eq_false (by omega)
 have hq:decide (isP dd yy)=false:=decide_eq_false hp
 have e1:leafE ns dd yy=1:=(if_neg (by omega)).trans (if_neg hp)
 have e2:leafR ns dd yy=0:=if_neg fun h=>hp h.2
 have e3:leafN ns dd yy=ns:=if_neg fun h=>hp h.2
 rw [e1,e2,e3]
 clear hT e1 e2 e3 h1 h2 hd hroom hp
 go_enter Tryz.func7,Tryz.ntmps7
 go_wp2_with fail
 generalize hW0:World.alloc _ _=W0
 have HB0:=hidB (w:=w) hW0 (by go_grown)
 have XA:Hid (Cel W0 w.heap.size (.slice p n c) (.slice p2 n2 c2)):=celW hW0 (by simp [go_sem])
 clear hW0
 refine (cfull_any B tb ns false hf W0 (hTT.out.up HB0.out)).mono ?_
 rintro e w1 ⟨rfl,ew1⟩
 subst ew1
 clear hf
 obtain ⟨a0,a1,_,_⟩:=XA.out
 have k0:=cell_lt a0
 go_wp2_with fail
 refine (tgood_any (.slice p n c) (.slice p2 n2 c2) dd yy HN.out.2.2 w1 (HN.out.1.up HB0.out) (HN.out.2.1.up HB0.out)).mono ?_
 rintro e w2 ⟨rfl,hB2⟩
 rw [hq]
 have HB2:=hid2 (bstep HB0.out hB2) hB2
 clear hB2
 clear hq
 go_wp2
 exact bodyPost_ret (v:=.tuple #[.int .i64 0,.int .i64 1]) (by simp [results,Tryz.results7,go_sem]) rfl ⟨rfl,hTT.out.up HB2.out.1,HB2.out.1.mono HBB.out,Only.of HB2.out.1⟩
theorem cleaf_good (B tb:Nat) (ns:List Nd) (p p2:Option Addr) (n c n2 c2:Nat) (dd yy:List Int) (hd:RI dd) (w:World) (hT:TapC w B tb ns) (h1:Nums .i64 w (.slice p n c) dd) (h2:Nums .i64 w (.slice p2 n2 c2) yy) (hroom:ns.length < 512) (hp:isP dd yy):
  Calls Tryz.prog 7 #[.pointer (some ⟨tb,0,none⟩),.agg #[.slice p n c,.slice p2 n2 c2]] w fun e w'=>e = .returned (.tuple #[.int .i64 (leafR ns dd yy),.int .i64 (leafE ns dd yy)])∧TapC w' B tb (leafN ns dd yy)∧Below B w w'∧Only SC w w':=by
 have HBB:Hid (B≤w.heap.size):=Nat.le_trans hT.1 (Nat.le_of_lt (by obtain ⟨_,_,_,hv,_⟩:=Tap.head hT;exact heap_lt hv))
 have hTT:Hid (TapC w B tb ns):=hT
 have HN:Hid (Nums .i64 w (.slice p n c) dd∧Nums .i64 w (.slice p2 n2 c2) yy∧RI dd):=⟨h1,h2,hd⟩
 have hf:decide (512≤ns.length)=false:=decide_eq_false (by omega)
 have hq:decide (isP dd yy)=true:=decide_eq_true hp
 have HP:Hid (isP dd yy∧ns.length < 512):=⟨hp,hroom⟩
 have e1:leafE ns dd yy=0:=(if_neg (by omega)).trans (if_pos hp)
 have e2:leafR ns dd yy=(ns.length:Int):=if_pos ⟨hroom,hp⟩
 have e3:leafN ns dd yy=ns++[⟨1,-1,-1,0,dd,yy⟩]:=if_pos ⟨hroom,hp⟩
 rw [e1,e2,e3]
 clear hT e1 e2 e3 h1 h2 hd hroom hp
 go_enter Tryz.func7,Tryz.ntmps7
 go_wp2_with fail
 generalize hW0:World.alloc _ _=W0
 have HB0:=hidB (w:=w) hW0 (by go_grown)
 have XA:Hid (Cel W0 w.heap.size (.slice p n c) (.slice p2 n2 c2)):=celW hW0 (by simp [go_sem])
 clear hW0
 refine (cfull_any B tb ns false hf W0 (hTT.out.up HB0.out)).mono ?_
 rintro e w1 ⟨rfl,ew1⟩
 subst ew1
 clear hf
 obtain ⟨a0,a1,_,_⟩:=XA.out
 have k0:=cell_lt a0
 go_wp2_with fail
 refine (tgood_any (.slice p n c) (.slice p2 n2 c2) dd yy HN.out.2.2 w1 (HN.out.1.up HB0.out) (HN.out.2.1.up HB0.out)).mono ?_
 rintro e w2 ⟨rfl,hB2⟩
 rw [hq]
 have HB2:=hid2 (bstep HB0.out hB2) hB2
 clear hB2
 clear hq
 replace a0:=cell_low a0 HB2.out.2
 replace a1:=cell_low a1 HB2.out.2
 replace k0:=cell_lt a0
 go_wp2_with fail
 refine (ccopied_any p p2 n c n2 c2 dd yy HP.out.1 w2 (HN.out.1.up HB2.out.1) (HN.out.2.1.up HB2.out.1)).mono ?_
 rintro e w3 ⟨v3,rfl,⟨s3,t3,rfl,hs,ht⟩,hB3⟩
 obtain ⟨pa,na,ca,rfl⟩:=hs.form_
 obtain ⟨pb,nb,cb,rfl⟩:=ht.form_
 have HB3:Hid (Below w.heap.size w w3):=bstep HB2.out.1 hB3
 have HO:Hid (OwnK .i64 3 w3 B (.slice pa na ca) dd∧OwnK .i64 22 w3 B (.slice pb nb cb) yy):=⟨hs.low (Nat.le_trans HBB.out HB2.out.1.size),ht.low (Nat.le_trans HBB.out HB2.out.1.size)⟩
 clear hs ht hB3 a0 a1 k0
 go_wp2_with fail
 refine (ckeep_sp B tb ns ⟨1,-1,-1,0,dd,yy⟩ pa pb na ca nb cb HP.out.2 w3 (hTT.out.up HB3.out) HO.out.1 HO.out.2).mono ?_
 rintro e w4 ⟨rfl,hT4,hB4,hO4,_⟩
 have HF:Hid (TapC w4 B tb (ns++[⟨1,-1,-1,0,dd,yy⟩])∧Below B w w4∧Only SC w w4):=⟨hT4,below_two (HB3.out.mono HBB.out) hB4,(Only.of HB3.out).trans hO4⟩
 clear hT4 hB4 hO4 HO
 go_wp2
 exact bodyPost_ret (v:=.tuple #[.int .i64 (ns.length:Int),.int .i64 0]) (by simp [results,Tryz.results7,go_sem]) rfl ⟨rfl,HF.out⟩
theorem cleaf_any (B tb:Nat) (ns:List Nd) (hG:NodesG ns) (p p2:Option Addr) (n c n2 c2:Nat) (dd yy:List Int) (hd:RI dd) (hy:RI yy) (w:World) (hT:TapC w B tb ns) (h1:Nums .i64 w (.slice p n c) dd) (h2:Nums .i64 w (.slice p2 n2 c2) yy):
  Calls Tryz.prog 7 #[.pointer (some ⟨tb,0,none⟩),.agg #[.slice p n c,.slice p2 n2 c2]] w fun e w'=>e = .returned (.tuple #[.int .i64 (leafR ns dd yy),.int .i64 (leafE ns dd yy)])∧TapC w' B tb (leafN ns dd yy)∧Below B w w'∧Only SC w w':=by
 by_cases hf:512≤ns.length
 ·exact cleaf_full B tb ns p p2 n c n2 c2 dd yy hd w hT h1 h2 hf
 ·by_cases hp:isP dd yy
  ·exact cleaf_good B tb ns p p2 n c n2 c2 dd yy hd w hT h1 h2 (by omega) hp
  ·exact cleaf_bad B tb ns p p2 n c n2 c2 dd yy hd w hT h1 h2 (by omega) hp
theorem fall6 {W:World} {b:Nat} {v0 v1 v2 v3 v4 v5 x4 x5:Value} {e:TypeId} (h:W.heap[b]?=some (.cells #[v0,v1,v2,v3,v4,v5] e (0,0))):((W.setCell ⟨b,4,none⟩ x4).setCell ⟨b,5,none⟩ x5).heap[b]?=some (.cells #[v0,v1,v2,v3,x4,x5] e (0,0)):=by
 rw [heap_setat (heap_setat h)]
 rfl
theorem cat_any (B tb:Nat) (ns:List Nd) (hG:NodesG ns) (i:Nat) (nd:Nd) (hi:ns[i]?=some nd) (w:World) (hT:TapC w B tb ns):
  Calls Tryz.prog 56 #[.pointer (some ⟨tb,0,none⟩),.int .i64 (i:Int)] w fun e w'=>∃ s t,e = .returned (.tuple #[.agg #[.int .i64 nd.op,.int .i64 nd.a,.int .i64 nd.b,.int .i64 nd.k,s,t],.bool true])∧OwnK .i64 3 w' w.heap.size s nd.D∧OwnK .i64 22 w' w.heap.size t nd.X∧Below w.heap.size w w':=by
 have hTT:Hid (TapC w B tb ns):=hT
 obtain ⟨pL,cL,xs0,hv,ho,hn0,hnc⟩:=Tap.head hT
 obtain ⟨N,eN⟩:∃ N,ns.length=N:=⟨_,rfl⟩
 rw [eN] at hv ho hnc
 have hcell:=(head_cell hv).1
 have hiN:i < N:=by rw [← eN];exact (List.getElem?_eq_some_iff.1 hi).1
 obtain ⟨q,nd',s_,t_,eq,hnd,c0,c1,c2,c3,c4,c5,hs,ht⟩:=node_cells ho hn0 eN i hiN
 rw [hi] at hnd
 cases hnd
 obtain ⟨pA,nA,cA,rfl⟩:=hs.form_
 obtain ⟨qA,mA,eA,rfl⟩:=ht.form_
 subst eq
 have hq:decide (0≤(i:Int)∧(i:Int) < (ns.length:Int))=true:=decide_eq_true (by omega)
 have HN:Hid (Nums .i64 w (.slice pA nA cA) nd.D∧Nums .i64 w (.slice qA mA eA) nd.X∧isP nd.D nd.X):=⟨hs.nums,ht.nums,(hG nd (nd_mem hi)).1⟩
 have HC:Hid (w.cell? ⟨tb,0,none⟩=some (.slice (some ⟨q,0,none⟩) N cL)∧w.cell? ⟨q,i*6,none⟩=some (.int .i64 nd.op)∧w.cell? ⟨q,i*6+1,none⟩=some (.int .i64 nd.a)∧w.cell? ⟨q,i*6+2,none⟩=some (.int .i64 nd.b)∧w.cell? ⟨q,i*6+3,none⟩=some (.int .i64 nd.k)∧w.cell? ⟨q,i*6+4,none⟩=some (.slice pA nA cA)∧w.cell? ⟨q,i*6+5,none⟩=some (.slice qA mA eA)):=⟨hcell,c0,c1,c2,c3,c4,c5⟩
 have d2:(i:Int) < (N:Int):=by omega
 obtain ⟨op,a,b,k,D,X⟩:=nd
 simp only [] at HC HN ⊢
 clear hT hv ho hn0 hnc hs ht c0 c1 c2 c3 c4 c5 hcell hG hi
 go_enter Tryz.func56,Tryz.ntmps56
 go_wp2_with fail
 generalize hW0:World.alloc _ _=W0
 have HR0:W0.heap[w.heap.size]?=some (.cells #[.int .i64 0,.int .i64 0,.int .i64 0,.int .i64 0,.slice none 0 0,.slice none 0 0] 58 (0,0)):=by rw [← hW0];exact heap_alloc_new _ _
 have HB0:Hid (Below w.heap.size w W0):=by show Below _ _ _;rw [← hW0];exact up_alloc _ _
 clear hW0
 refine (chas_any B tb ns (i:Int) true hq W0 (hTT.out.up HB0.out)).mono ?_
 rintro e w1 ⟨rfl,ew1⟩
 subst ew1
 clear hq
 have c:=cell_low HC.out.1 HB0.out
 have c0:=cell_low HC.out.2.1 HB0.out
 have c1:=cell_low HC.out.2.2.1 HB0.out
 have c2:=cell_low HC.out.2.2.2.1 HB0.out
 have c3:=cell_low HC.out.2.2.2.2.1 HB0.out
 have c4:=cell_low HC.out.2.2.2.2.2.1 HB0.out
 have c5:=cell_low HC.out.2.2.2.2.2.2 HB0.out
 have k0:=cell_lt c
 have k1:=cell_lt c0
 go_wp2_with fail
 generalize hW2:World.alloc _ _=W2
 have HX2:W2.heap[w1.heap.size]?=some (.cells #[.int .i64 op,.int .i64 a,.int .i64 b,.int .i64 k,.slice pA nA cA,.slice qA mA eA] 58 (0,0)):=by rw [← hW2];exact heap_alloc_new _ _
 have HB2:Hid (Below w1.heap.size w1 W2∧Below w.heap.size w W2):=by
  have h:=up_alloc w1 (.cells #[.int .i64 op,.int .i64 a,.int .i64 b,.int .i64 k,.slice pA nA cA,.slice qA mA eA] 58)
  rw [hW2] at h
  exact ⟨h,bstep HB0.out h⟩
 have HR2:W2.heap[w.heap.size]?=some (.cells #[.int .i64 0,.int .i64 0,.int .i64 0,.int .i64 0,.slice none 0 0,.slice none 0 0] 58 (0,0)):=by rw [HB2.out.1.block _ (heap_lt HR0)];exact HR0
 clear hW2 c c0 c1 c2 c3 c4 c5 k0 k1
 refine (ccopied_any pA qA nA cA mA eA D X HN.out.2.2 W2 (HN.out.1.up HB2.out.2) (HN.out.2.1.up HB2.out.2)).mono ?_
 rintro e w3 ⟨v3,rfl,⟨s3,t3,rfl,hs,ht⟩,hB3⟩
 obtain ⟨pa,na,ca,rfl⟩:=hs.form_
 obtain ⟨pb,nb,cb,rfl⟩:=ht.form_
 have HX3:w3.heap[w1.heap.size]?=some (.cells #[.int .i64 op,.int .i64 a,.int .i64 b,.int .i64 k,.slice pA nA cA,.slice qA mA eA] 58 (0,0)):=by rw [hB3.block _ (heap_lt HX2)];exact HX2
 have HR3:w3.heap[w.heap.size]?=some (.cells #[.int .i64 0,.int .i64 0,.int .i64 0,.int .i64 0,.slice none 0 0,.slice none 0 0] 58 (0,0)):=by rw [hB3.block _ (heap_lt HR2)];exact HR2
 have HO:Hid (OwnK .i64 3 w3 w.heap.size (.slice pa na ca) D∧OwnK .i64 22 w3 w.heap.size (.slice pb nb cb) X):=⟨hs.low HB2.out.2.size,ht.low HB2.out.2.size⟩
 have HB3:Hid (Below w.heap.size w w3):=bstep HB2.out.2 hB3
 have hlt:w.heap.size < w1.heap.size:=heap_lt HR0
 clear hs ht hB3 HX2 HR2 HR0 HN HC d2 hTT
 have n1:w1.heap.size≠w.heap.size:=by omega
 have n2:w.heap.size≠w1.heap.size:=by omega
 obtain ⟨⟨x0,x1,x2,x3,x4,x5⟩,xf⟩:=box6 HX3
 obtain ⟨⟨r0,r1,r2,r3,r4,r5⟩,rf⟩:=box6 HR3
 have k1:=heap_lt HX3
 have k2:=heap_lt HR3
 have HX4:Hid ((((w3.setCell ⟨w1.heap.size,4,none⟩ (.slice pa na ca)).setCell ⟨w1.heap.size,5,none⟩ (.slice pb nb cb)).heap[w1.heap.size]?=some (.cells #[.int .i64 op,.int .i64 a,.int .i64 b,.int .i64 k,.slice pa na ca,.slice pb nb cb] 58 (0,0))∧((w3.setCell ⟨w1.heap.size,4,none⟩ (.slice pa na ca)).setCell ⟨w1.heap.size,5,none⟩ (.slice pb nb cb)).heap[w.heap.size]?=some (.cells #[.int .i64 0,.int .i64 0,.int .i64 0,.int .i64 0,.slice none 0 0,.slice none 0 0] 58 (0,0)))∧Below w.heap.size w ((w3.setCell ⟨w1.heap.size,4,none⟩ (.slice pa na ca)).setCell ⟨w1.heap.size,5,none⟩ (.slice pb nb cb))∧Only [58] w3 ((w3.setCell ⟨w1.heap.size,4,none⟩ (.slice pa na ca)).setCell ⟨w1.heap.size,5,none⟩ (.slice pb nb cb))):=by
  refine ⟨⟨fall6 HX3,?_⟩,?_,?_⟩
  ·rw [heap_set _ _ _ _ _ (by omega),heap_set _ _ _ _ _ (by omega)]
   exact HR3
  ·exact (HB3.out.setCell (p:=⟨w1.heap.size,4,none⟩) (Nat.le_of_lt hlt) _).setCell (p:=⟨w1.heap.size,5,none⟩) (Nat.le_of_lt hlt) _
  ·exact (Only.set HX3 (by simp)).trans (Only.set (heap_setat HX3) (by simp))
 go_wp2
 generalize hW9:World.setCell _ _ _=W9
 have h0:=HX4.out.1.2
 have h1:=heap_setat (o:=0) (x:=(.int .i64 op)) h0
 have h2:=heap_setat (o:=1) (x:=(.int .i64 a)) h1
 have h3:=heap_setat (o:=2) (x:=(.int .i64 b)) h2
 have h4:=heap_setat (o:=3) (x:=(.int .i64 k)) h3
 have h5:=heap_setat (o:=4) (x:=(.slice pa na ca)) h4
 have H9:W9.heap[w.heap.size]?=some (.cells #[.int .i64 op,.int .i64 a,.int .i64 b,.int .i64 k,.slice pa na ca,.slice pb nb cb] 58 (0,0)):=by
  rw [← hW9]
  exact (heap_setat h5).trans rfl
 have B9:Below w.heap.size w W9:=by
  rw [← hW9]
  exact ((((((HX4.out.2.1.setCell (p:=⟨w.heap.size,0,none⟩) (Nat.le_refl _) _).setCell (p:=⟨w.heap.size,1,none⟩) (Nat.le_refl _) _).setCell (p:=⟨w.heap.size,2,none⟩) (Nat.le_refl _) _).setCell (p:=⟨w.heap.size,3,none⟩) (Nat.le_refl _) _).setCell (p:=⟨w.heap.size,4,none⟩) (Nat.le_refl _) _).setCell (p:=⟨w.heap.size,5,none⟩) (Nat.le_refl _) _)
 have O9:Only [58] w3 W9:=by
  rw [← hW9]
  exact ((((((HX4.out.2.2.trans (Only.set h0 (by simp))).trans (Only.set h1 (by simp))).trans (Only.set h2 (by simp))).trans (Only.set h3 (by simp))).trans (Only.set h4 (by simp))).trans (Only.set h5 (by simp)))
 obtain ⟨⟨z0,z1,z2,z3,z4,z5⟩,_⟩:=box6 H9
 exact bodyPost_ret (v:=.tuple #[.agg #[.int .i64 op,.int .i64 a,.int .i64 b,.int .i64 k,.slice pa na ca,.slice pb nb cb],.bool true]) (by simp [results,Tryz.results56,go_sem,z0,z1,z2,z3,z4,z5]) rfl ⟨_,_,rfl,HO.out.1.only O9 (by decide),HO.out.2.only O9 (by decide),B9⟩
theorem catno_any (B tb:Nat) (ns:List Nd) (i:Int) (hi:i < 0∨(ns.length:Int)≤i) (w:World) (hT:TapC w B tb ns):
  Calls Tryz.prog 56 #[.pointer (some ⟨tb,0,none⟩),.int .i64 i] w fun e w'=>e = .returned (.tuple #[.agg #[.int .i64 0,.int .i64 0,.int .i64 0,.int .i64 0,.slice none 0 0,.slice none 0 0],.bool false])∧Below w.heap.size w w':=by
 have hTT:Hid (TapC w B tb ns):=hT
 have hq:decide (0≤i∧i < (ns.length:Int))=false:=decide_eq_false (by omega)
 clear hT hi
 go_enter Tryz.func56,Tryz.ntmps56
 go_wp2_with fail
 generalize hW0:World.alloc _ _=W0
 have h0:W0.heap[w.heap.size]?=some (.cells #[.int .i64 0,.int .i64 0,.int .i64 0,.int .i64 0,.slice none 0 0,.slice none 0 0] 58 (0,0)):=by rw [← hW0];exact heap_alloc_new _ _
 have HB0:Hid (Below w.heap.size w W0):=by show Below _ _ _;rw [← hW0];exact up_alloc _ _
 clear hW0
 refine (chas_any B tb ns i false hq W0 (hTT.out.up HB0.out)).mono ?_
 rintro e w1 ⟨rfl,ew1⟩
 subst ew1
 clear hq
 obtain ⟨⟨r0,r1,r2,r3,r4,r5⟩,rf⟩:=box6 h0
 have k2:=heap_lt h0
 go_wp2
 generalize hW9:World.setCell _ _ _=W9
 have h1:=heap_setat (o:=0) (x:=(.int .i64 0)) h0
 have h2:=heap_setat (o:=1) (x:=(.int .i64 0)) h1
 have h3:=heap_setat (o:=2) (x:=(.int .i64 0)) h2
 have h4:=heap_setat (o:=3) (x:=(.int .i64 0)) h3
 have h5:=heap_setat (o:=4) (x:=(.slice none 0 0)) h4
 have H9:W9.heap[w.heap.size]?=some (.cells #[.int .i64 0,.int .i64 0,.int .i64 0,.int .i64 0,.slice none 0 0,.slice none 0 0] 58 (0,0)):=by
  rw [← hW9]
  exact (heap_setat h5).trans rfl
 have B9:Below w.heap.size w W9:=by
  rw [← hW9]
  exact ((((((HB0.out.setCell (p:=⟨w.heap.size,0,none⟩) (Nat.le_refl _) _).setCell (p:=⟨w.heap.size,1,none⟩) (Nat.le_refl _) _).setCell (p:=⟨w.heap.size,2,none⟩) (Nat.le_refl _) _).setCell (p:=⟨w.heap.size,3,none⟩) (Nat.le_refl _) _).setCell (p:=⟨w.heap.size,4,none⟩) (Nat.le_refl _) _).setCell (p:=⟨w.heap.size,5,none⟩) (Nat.le_refl _) _)
 obtain ⟨⟨z0,z1,z2,z3,z4,z5⟩,_⟩:=box6 H9
 exact bodyPost_ret (v:=.tuple #[.agg #[.int .i64 0,.int .i64 0,.int .i64 0,.int .i64 0,.slice none 0 0,.slice none 0 0],.bool false]) (by simp [results,Tryz.results56,go_sem,z0,z1,z2,z3,z4,z5]) rfl ⟨rfl,B9⟩
theorem cvalue_any (B tb:Nat) (ns:List Nd) (hG:NodesG ns) (i:Nat) (nd:Nd) (hi:ns[i]?=some nd) (w:World) (hT:TapC w B tb ns):
  Calls Tryz.prog 25 #[.pointer (some ⟨tb,0,none⟩),.int .i64 (i:Int)] w fun e w'=>∃ v,e = .returned (.tuple #[v,.bool true])∧TRes w' w.heap.size v nd.D nd.X∧Below w.heap.size w w':=by
 have HAT:Hid (∀ W,Below w.heap.size w W→Calls Tryz.prog 56 #[.pointer (some ⟨tb,0,none⟩),.int .i64 (i:Int)] W fun e w'=>∃ s t,e = .returned (.tuple #[.agg #[.int .i64 nd.op,.int .i64 nd.a,.int .i64 nd.b,.int .i64 nd.k,s,t],.bool true])∧OwnK .i64 3 w' W.heap.size s nd.D∧OwnK .i64 22 w' W.heap.size t nd.X∧Below W.heap.size W w'):=fun W hW=>cat_any B tb ns hG i nd hi W (hT.up hW)
 obtain ⟨op,a,b,k,D,X⟩:=nd
 simp only [] at HAT ⊢
 clear hT hi hG
 go_enter Tryz.func25,Tryz.ntmps25
 go_wp2_with fail
 generalize hW0:World.alloc _ _=W0
 have HB0:Hid (Below w.heap.size w W0):=by show Below _ _ _;rw [← hW0];exact up_alloc _ _
 have XR:Hid (Cel W0 w.heap.size (.slice none 0 0) (.slice none 0 0)):=celW hW0 (by simp [go_sem])
 clear hW0
 refine (HAT.out W0 HB0.out).mono ?_
 rintro e w1 ⟨s,t,rfl,hs,ht,hB1⟩
 obtain ⟨pa,na,ca,rfl⟩:=hs.form_
 obtain ⟨pb,nb,cb,rfl⟩:=ht.form_
 have HF:Hid (TRes (set2 w1 w.heap.size (.slice pa na ca) (.slice pb nb cb)) w.heap.size (.agg #[.slice pa na ca,.slice pb nb cb]) D X∧Below w.heap.size w (set2 w1 w.heap.size (.slice pa na ca) (.slice pb nb cb))):=⟨(TRes.set hs ht (cell_lt XR.out.1)).low HB0.out.size,below_cell (bstep HB0.out hB1) _ (Nat.le_refl _) _ _⟩
 clear hs ht HAT
 have xr:=XR.out.up hB1
 have cf:=xr.set (.slice pa na ca) (.slice pb nb cb)
 obtain ⟨r0,r1,r2,r3⟩:=xr
 have kq:=cell_lt r0
 have z0:=cell_low cf.1 (up_alloc _ (.cells #[.int .i64 op,.int .i64 a,.int .i64 b,.int .i64 k,.slice pa na ca,.slice pb nb cb] 58))
 have z1:=cell_low cf.2.1 (up_alloc _ (.cells #[.int .i64 op,.int .i64 a,.int .i64 b,.int .i64 k,.slice pa na ca,.slice pb nb cb] 58))
 clear cf
 go_wp2
 exact bodyPost_ret (v:=.tuple #[.agg #[.slice pa na ca,.slice pb nb cb],.bool true]) (by simp [results,Tryz.results25,go_sem,z0,z1]) rfl ⟨_,rfl,HF.out.1.up (up_alloc _ _),bstep HF.out.2 (up_alloc _ _)⟩
theorem cvno_any (B tb:Nat) (ns:List Nd) (i:Int) (hi:i < 0∨(ns.length:Int)≤i) (w:World) (hT:TapC w B tb ns):
  Calls Tryz.prog 25 #[.pointer (some ⟨tb,0,none⟩),.int .i64 i] w fun e w'=>e = .returned (.tuple #[.agg #[.slice none 0 0,.slice none 0 0],.bool false])∧Below w.heap.size w w':=by
 have HAT:Hid (∀ W,Below w.heap.size w W→Calls Tryz.prog 56 #[.pointer (some ⟨tb,0,none⟩),.int .i64 i] W fun e w'=>e = .returned (.tuple #[.agg #[.int .i64 0,.int .i64 0,.int .i64 0,.int .i64 0,.slice none 0 0,.slice none 0 0],.bool false])∧Below W.heap.size W w'):=fun W hW=>catno_any B tb ns i hi W (hT.up hW)
 clear hT hi
 go_enter Tryz.func25,Tryz.ntmps25
 go_wp2_with fail
 generalize hW0:World.alloc _ _=W0
 have HB0:Hid (Below w.heap.size w W0):=by show Below _ _ _;rw [← hW0];exact up_alloc _ _
 have XR:Hid (Cel W0 w.heap.size (.slice none 0 0) (.slice none 0 0)):=celW hW0 (by simp [go_sem])
 clear hW0
 refine (HAT.out W0 HB0.out).mono ?_
 rintro e w1 ⟨rfl,hB1⟩
 have HF:Hid (Below w.heap.size w (set2 w1 w.heap.size (.slice none 0 0) (.slice none 0 0))):=below_cell (bstep HB0.out hB1) _ (Nat.le_refl _) _ _
 clear HAT
 have xr:=XR.out.up hB1
 have cf:=xr.set (.slice none 0 0) (.slice none 0 0)
 obtain ⟨r0,r1,r2,r3⟩:=xr
 have kq:=cell_lt r0
 have z0:=cell_low cf.1 (up_alloc _ (.cells #[.int .i64 0,.int .i64 0,.int .i64 0,.int .i64 0,.slice none 0 0,.slice none 0 0] 58))
 have z1:=cell_low cf.2.1 (up_alloc _ (.cells #[.int .i64 0,.int .i64 0,.int .i64 0,.int .i64 0,.slice none 0 0,.slice none 0 0] 58))
 clear cf
 go_wp2
 exact bodyPost_ret (v:=.tuple #[.agg #[.slice none 0 0,.slice none 0 0],.bool false]) (by simp [results,Tryz.results25,go_sem,z0,z1]) rfl ⟨rfl,bstep HF.out (up_alloc _ _)⟩
/-- Every node's own number is Go's. -/
def NodesK (ns:List Nd):Prop:=∀ nd,nd∈ns→InR nd.k
theorem NodesK.of {ns:List Nd} (h:(ns.all fun nd=>decide (-9223372036854775808≤nd.k) && decide (nd.k≤9223372036854775807))=true):NodesK ns:=fun nd hm=>by
 have:=List.all_eq_true.1 h nd hm
 simp only [Bool.and_eq_true,decide_eq_true_eq] at this
 unfold InR
 omega
/-- What a node says of the two that it is of. -/
theorem OkP.of {ns:List Nd} (hG:NodesG ns) (hV:NodesV ns) {i:Nat} {nd:Nd} (hi:ns[i]?=some nd) (h1:nd.op≠1) {g:Ten} (hg:TenG g) (eg:g.1=nd.D):OkP nd.op nd.k (aOf ns nd) (bOf ns nd) g∧(2≤nd.op∧nd.op≤14)∧(0≤nd.a∧nd.a < (i:Int))∧(twoP nd.op→0≤nd.b∧nd.b < (i:Int))∧(¬ twoP nd.op→nd.b = -1):=by
 have hl:i < ns.length:=(List.getElem?_eq_some_iff.1 hi).1
 rcases hV i nd hi with h|⟨ho,ha,hb,hb',hE,hD⟩
 ·exact absurd h.1 h1
 refine ⟨⟨hG.at ha.1 (by omega),hg,fun ht=>?_,hE,eg.trans hD⟩,ho,ha,hb,hb'⟩
 have:=hb ht
 show TnsG (dD ns nd.op nd.b) (dX ns nd.op nd.b)
 unfold dD dX
 rw [if_pos ht,if_pos ht]
 exact hG.at this.1 (by omega)
theorem onA_one (k:Int) (a b g:Ten):onA 1 k a b g=([],[]):=by simp [onA]
theorem onB_no {op:Int} (h:¬ twoP op) (k:Int) (a b g:Ten):onB op k a b g=([],[]):=by
 have h2:op≠2:=fun e=>h (.inl e)
 have h3:op≠3:=fun e=>h (.inr (.inl e))
 have h4:op≠4:=fun e=>h (.inr (.inr (.inl e)))
 have h6:op≠6:=fun e=>h (.inr (.inr (.inr (.inl e))))
 have h12:op≠12:=fun e=>h (.inr (.inr (.inr (.inr e))))
 simp [onB,h2,h3,h4,h6,h12]
/-- What Value tells of any number. -/
theorem cval_any (B tb:Nat) (ns:List Nd) (hG:NodesG ns) (i:Int) (w:World) (hT:TapC w B tb ns):
  Calls Tryz.prog 25 #[.pointer (some ⟨tb,0,none⟩),.int .i64 i] w fun e w'=>∃ v q,e = .returned (.tuple #[v,.bool q])∧TRes w' w.heap.size v (if 0≤i∧i < (ns.length:Int) then (ndN ns i).D else []) (if 0≤i∧i < (ns.length:Int) then (ndN ns i).X else [])∧Below w.heap.size w w':=by
 by_cases h:0≤i∧i < (ns.length:Int)
 ·obtain ⟨j,rfl⟩:∃ j:Nat,i=(j:Int):=⟨i.toNat,by omega⟩
  rw [if_pos h,if_pos h]
  refine (cvalue_any B tb ns hG j _ (ndN_get (by omega)) w hT).mono ?_
  rintro e w' ⟨v,rfl,h1,h2⟩
  exact ⟨v,true,rfl,h1,h2⟩
 ·rw [if_neg h,if_neg h]
  refine (cvno_any B tb ns i (by omega) w hT).mono ?_
  rintro e w' ⟨rfl,h2⟩
  exact ⟨_,false,rfl,TRes.none _ _,h2⟩
theorem cgive_any (B tb:Nat) (ns:List Nd) (hG:NodesG ns) (hV:NodesV ns) (hNK:NodesK ns) (i:Nat) (op a b k:Int) (D X:List Int) (hi:ns[i]?=some ⟨op,a,b,k,D,X⟩) (ps pt p p2:Option Addr) (ns_ cs nt ct n c n2 c2:Nat) (g:Ten) (hg:TenG g) (eg:g.1=D) (hc2:n2≤c2) (w:World) (hT:TapC w B tb ns) (hTz:Hid (Tz w)) (h1:Nums .i64 w (.slice p n c) g.1) (h2:Nums .i64 w (.slice p2 n2 c2) g.2):
  Calls Tryz.prog 58 #[.pointer (some ⟨tb,0,none⟩),.agg #[.int .i64 op,.int .i64 a,.int .i64 b,.int .i64 k,.slice ps ns_ cs,.slice pt nt ct],.agg #[.slice p n c,.slice p2 n2 c2]] w fun e w'=>∃ u v,e = .returned (.tuple #[u,v,.int .i64 0])∧TRes w' w.heap.size u (onA op k (aOf ns ⟨op,a,b,k,D,X⟩) (bOf ns ⟨op,a,b,k,D,X⟩) g).1 (onA op k (aOf ns ⟨op,a,b,k,D,X⟩) (bOf ns ⟨op,a,b,k,D,X⟩) g).2∧TRes w' w.heap.size v (onB op k (aOf ns ⟨op,a,b,k,D,X⟩) (bOf ns ⟨op,a,b,k,D,X⟩) g).1 (onB op k (aOf ns ⟨op,a,b,k,D,X⟩) (bOf ns ⟨op,a,b,k,D,X⟩) g).2∧Below w.heap.size w w':=by
 have hkk:InR k:=hNK _ (nd_mem hi)
 obtain ⟨RA,eRA⟩:∃ R,onA op k (aOf ns ⟨op,a,b,k,D,X⟩) (bOf ns ⟨op,a,b,k,D,X⟩) g=R:=⟨_,rfl⟩
 obtain ⟨RB,eRB⟩:∃ R,onB op k (aOf ns ⟨op,a,b,k,D,X⟩) (bOf ns ⟨op,a,b,k,D,X⟩) g=R:=⟨_,rfl⟩
 have hil:i < ns.length:=(List.getElem?_eq_some_iff.1 hi).1
 obtain ⟨ta,tb_,cva,cvb,cga,cgb⟩:∃ ta tb_:Ten,
   Hid (∀ W,Below w.heap.size w W→Calls Tryz.prog 25 #[.pointer (some ⟨tb,0,none⟩),.int .i64 a] W fun e w'=>∃ v q,e = .returned (.tuple #[v,.bool q])∧TRes w' W.heap.size v ta.1 ta.2∧Below W.heap.size W w')
   ∧ Hid (∀ W,Below w.heap.size w W→Calls Tryz.prog 25 #[.pointer (some ⟨tb,0,none⟩),.int .i64 b] W fun e w'=>∃ v q,e = .returned (.tuple #[v,.bool q])∧TRes w' W.heap.size v tb_.1 tb_.2∧Below W.heap.size W w')
   ∧ Hid (∀ W p3 p4 p5 p6 n3 c3 n4 c4 n5 c5 n6 c6,Below w.heap.size w W→Nums .i64 W (.slice p3 n3 c3) ta.1→Nums .i64 W (.slice p4 n4 c4) ta.2→Nums .i64 W (.slice p5 n5 c5) tb_.1→Nums .i64 W (.slice p6 n6 c6) tb_.2→n4≤c4→n6≤c6→Calls Tryz.prog 106 #[.agg #[.int .i64 op,.int .i64 a,.int .i64 b,.int .i64 k,.slice ps ns_ cs,.slice pt nt ct],.agg #[.slice p3 n3 c3,.slice p4 n4 c4],.agg #[.slice p5 n5 c5,.slice p6 n6 c6],.agg #[.slice p n c,.slice p2 n2 c2]] W fun e w'=>∃ v',e = .returned (.tuple #[v',.int .i64 0])∧TRes w' W.heap.size v' RA.1 RA.2∧Below W.heap.size W w')
   ∧ Hid (∀ W p3 p4 p5 p6 n3 c3 n4 c4 n5 c5 n6 c6,Below w.heap.size w W→Nums .i64 W (.slice p3 n3 c3) ta.1→Nums .i64 W (.slice p4 n4 c4) ta.2→Nums .i64 W (.slice p5 n5 c5) tb_.1→Nums .i64 W (.slice p6 n6 c6) tb_.2→n4≤c4→n6≤c6→Calls Tryz.prog 107 #[.agg #[.int .i64 op,.int .i64 a,.int .i64 b,.int .i64 k,.slice ps ns_ cs,.slice pt nt ct],.agg #[.slice p3 n3 c3,.slice p4 n4 c4],.agg #[.slice p5 n5 c5,.slice p6 n6 c6],.agg #[.slice p n c,.slice p2 n2 c2]] W fun e w'=>∃ v',e = .returned (.tuple #[v',.int .i64 0])∧TRes w' W.heap.size v' RB.1 RB.2∧Below W.heap.size W w'):=by
  have cv:=fun (j:Int) W (hW:Below w.heap.size w W)=>cval_any B tb ns hG j W (hT.up hW)
  by_cases h1':op=1
  ·subst h1'
   rw [onA_one] at eRA
   rw [onB_no (by decide)] at eRB
   subst eRA eRB
   exact ⟨((if 0≤a∧a < (ns.length:Int) then (ndN ns a).D else []),(if 0≤a∧a < (ns.length:Int) then (ndN ns a).X else [])),((if 0≤b∧b < (ns.length:Int) then (ndN ns b).D else []),(if 0≤b∧b < (ns.length:Int) then (ndN ns b).X else [])),fun W hW=>cv a W hW,fun W hW=>cv b W hW,fun W p3 p4 p5 p6 n3 c3 n4 c4 n5 c5 n6 c6 hW _ _ _ _ _ _=>ga_none 1 (by decide) ps pt p3 p4 p5 p6 p p2 ns_ cs nt ct n3 c3 n4 c4 n5 c5 n6 c6 n c n2 c2 a b k W,fun W p3 p4 p5 p6 n3 c3 n4 c4 n5 c5 n6 c6 hW _ _ _ _ _ _=>gb_none 1 (by decide) ps pt p3 p4 p5 p6 p p2 ns_ cs nt ct n3 c3 n4 c4 n5 c5 n6 c6 n c n2 c2 a b k W⟩
  ·obtain ⟨ok,ho,ha,hb,hb'⟩:=OkP.of hG hV hi h1' hg eg
   simp only [] at ok ho ha hb hb'
   have hva:=cv a
   rw [if_pos ⟨ha.1,by omega⟩,if_pos ⟨ha.1,by omega⟩] at hva
   have hvb:=cv b
   have eb:(if 0≤b∧b < (ns.length:Int) then (ndN ns b).D else [])=(bOf ns ⟨op,a,b,k,D,X⟩).1∧(if 0≤b∧b < (ns.length:Int) then (ndN ns b).X else [])=(bOf ns ⟨op,a,b,k,D,X⟩).2:=by
    show _=dD ns op b∧_=dX ns op b
    unfold dD dX
    by_cases ht:twoP op
    ·have:=hb ht
     rw [if_pos ht,if_pos ht,if_pos ⟨this.1,by omega⟩,if_pos ⟨this.1,by omega⟩]
     exact ⟨rfl,rfl⟩
    ·have:=hb' ht
     rw [if_neg ht,if_neg ht,if_neg (by omega),if_neg (by omega)]
     exact ⟨rfl,rfl⟩
   rw [eb.1,eb.2] at hvb
   refine ⟨aOf ns ⟨op,a,b,k,D,X⟩,bOf ns ⟨op,a,b,k,D,X⟩,hva,hvb,fun W p3 p4 p5 p6 n3 c3 n4 c4 n5 c5 n6 c6 hW u1 u2 u3 u4 u5 u6=>?_,fun W p3 p4 p5 p6 n3 c3 n4 c4 n5 c5 n6 c6 hW u1 u2 u3 u4 u5 u6=>?_⟩
   ·rw [← eRA]
    exact cga_any op ho ps pt p3 p4 p5 p6 p p2 ns_ cs nt ct n3 c3 n4 c4 n5 c5 n6 c6 n c n2 c2 a b k _ _ g hkk ok u5 u6 hc2 W (Hid.up_tz hTz hW) u1 u2 u3 u4 (h1.up hW) (h2.up hW)
   ·rw [← eRB]
    by_cases ht:twoP op
    ·exact cgb_any op ht ps pt p3 p4 p5 p6 p p2 ns_ cs nt ct n3 c3 n4 c4 n5 c5 n6 c6 n c n2 c2 a b k _ _ g hkk ok u5 u6 hc2 W (Hid.up_tz hTz hW) u1 u2 u3 u4 (h1.up hW) (h2.up hW)
    ·rw [onB_no ht]
     exact gb_none op ht ps pt p3 p4 p5 p6 p p2 ns_ cs nt ct n3 c3 n4 c4 n5 c5 n6 c6 n c n2 c2 a b k W
 rw [eRA,eRB]
 clear eRA eRB hkk hil hG hV hNK hi hg eg hc2 hT hTz h1 h2
 go_enter Tryz.func58,Tryz.ntmps58
 go_wp2_with fail
 generalize hW0:World.alloc _ _=W0
 have HB0:=hidB (w:=w) hW0 (by go_grown)
 have XN:Hid (W0.heap[w.heap.size]?=some (.cells #[.int .i64 op,.int .i64 a,.int .i64 b,.int .i64 k,.slice ps ns_ cs,.slice pt nt ct] 58 (0,0))):=by
  show _=_
  rw [← hW0]
  exact ((up_alloc _ _).block _ (by simp;try omega)).trans (((up_alloc _ _).block _ (by simp;try omega)).trans (((up_alloc _ _).block _ (by simp;try omega)).trans (heap_alloc_new _ _)))
 have XG:Hid (Cel W0 (w.heap.size+1) (.slice p n c) (.slice p2 n2 c2)):=celW hW0 (by simp [go_sem])
 have X6:Hid (Cel W0 (w.heap.size+2) (.slice none 0 0) (.slice none 0 0)):=celW hW0 (by simp [go_sem])
 have X7:Hid (Cel W0 (w.heap.size+3) (.slice none 0 0) (.slice none 0 0)):=celW hW0 (by simp [go_sem])
 clear hW0
 refine (cva.out W0 HB0.out).mono ?_
 rintro e w1 ⟨v1,q1,rfl,⟨s1,t1,rfl,hs1,ht1⟩,hB1⟩
 obtain ⟨p3,n3,c3,rfl⟩:=hs1.form_
 obtain ⟨p4,n4,c4,rfl⟩:=ht1.form_
 have HB1:=hid2 (bstep HB0.out hB1) hB1
 have HN1:Hid (Nums .i64 w1 (.slice p3 n3 c3) ta.1∧Nums .i64 w1 (.slice p4 n4 c4) ta.2∧n4≤c4):=⟨hs1.nums,ht1.nums,ht1.cap⟩
 have HX1:w1.heap[w.heap.size]?=some (.cells #[.int .i64 op,.int .i64 a,.int .i64 b,.int .i64 k,.slice ps ns_ cs,.slice pt nt ct] 58 (0,0)):=(hB1.block _ (heap_lt XN.out)).trans XN.out
 obtain ⟨⟨k0,k1,k2,k3,k4,k5⟩,_⟩:=box6 HX1
 have kz:=heap_lt HX1
 clear hs1 ht1 hB1 cva
 go_wp2_with fail
 generalize hW2:World.alloc _ _=W2
 have B2:Below w1.heap.size w1 W2:=by rw [← hW2];exact up_alloc _ _
 have XA2:Hid (Cel W2 w1.heap.size (.slice p3 n3 c3) (.slice p4 n4 c4)):=celW hW2 (by simp [go_sem])
 have HB2:=hid2 (bstep HB1.out.1 B2) (bstep HB1.out.2 B2)
 have HN2:Hid (Nums .i64 W2 (.slice p3 n3 c3) ta.1∧Nums .i64 W2 (.slice p4 n4 c4) ta.2∧n4≤c4):=⟨HN1.out.1.up B2,HN1.out.2.1.up B2,HN1.out.2.2⟩
 clear hW2 B2 HB1 HN1 HX1 k0 k1 k2 k3 k4 k5 kz
 refine (cvb.out W2 HB2.out.1).mono ?_
 rintro e w3 ⟨v3,q3,rfl,⟨s3,t3,rfl,hs3,ht3⟩,hB3⟩
 obtain ⟨p5,n5,c5,rfl⟩:=hs3.form_
 obtain ⟨p6,n6,c6,rfl⟩:=ht3.form_
 have HB3:=hid2 (bstep HB2.out.1 hB3) (bstep HB2.out.2 hB3)
 have HN3:Hid ((Nums .i64 w3 (.slice p3 n3 c3) ta.1∧Nums .i64 w3 (.slice p4 n4 c4) ta.2∧n4≤c4)∧Nums .i64 w3 (.slice p5 n5 c5) tb_.1∧Nums .i64 w3 (.slice p6 n6 c6) tb_.2∧n6≤c6):=⟨⟨HN2.out.1.up hB3,HN2.out.2.1.up hB3,HN2.out.2.2⟩,hs3.nums,ht3.nums,ht3.cap⟩
 have HX3:w3.heap[w.heap.size]?=some (.cells #[.int .i64 op,.int .i64 a,.int .i64 b,.int .i64 k,.slice ps ns_ cs,.slice pt nt ct] 58 (0,0)):=(HB3.out.2.block _ (heap_lt XN.out)).trans XN.out
 have XA3:Hid (Cel w3 w1.heap.size (.slice p3 n3 c3) (.slice p4 n4 c4)):=XA2.out.up hB3
 obtain ⟨⟨k0,k1,k2,k3,k4,k5⟩,_⟩:=box6 HX3
 have kz:=heap_lt HX3
 obtain ⟨xa0,xa1,_,_⟩:=XA3.out
 have ka:=cell_lt xa0
 obtain ⟨xg0,xg1,_,_⟩:=XG.out.up HB3.out.2
 have kg:=cell_lt xg0
 clear hs3 ht3 hB3 cvb HB2 HN2 XA2
 go_wp2_with fail
 generalize hW4:World.alloc _ _=W4
 have B4:Below w3.heap.size w3 W4:=by rw [← hW4];exact up_alloc _ _
 have XB4:Hid (Cel W4 w3.heap.size (.slice p5 n5 c5) (.slice p6 n6 c6)):=celW hW4 (by simp [go_sem])
 have XA4:Hid (Cel W4 w1.heap.size (.slice p3 n3 c3) (.slice p4 n4 c4)):=XA3.out.up B4
 have HB4:=hid2 (bstep HB3.out.1 B4) (bstep HB3.out.2 B4)
 have HN4:Hid ((Nums .i64 W4 (.slice p3 n3 c3) ta.1∧Nums .i64 W4 (.slice p4 n4 c4) ta.2∧n4≤c4)∧Nums .i64 W4 (.slice p5 n5 c5) tb_.1∧Nums .i64 W4 (.slice p6 n6 c6) tb_.2∧n6≤c6):=⟨⟨HN3.out.1.1.up B4,HN3.out.1.2.1.up B4,HN3.out.1.2.2⟩,HN3.out.2.1.up B4,HN3.out.2.2.1.up B4,HN3.out.2.2.2⟩
 clear hW4 B4 HB3 HN3 HX3 k0 k1 k2 k3 k4 k5 kz xa0 xa1 ka xg0 xg1 kg XA3
 refine (cga.out W4 _ _ _ _ _ _ _ _ _ _ _ _ HB4.out.1 HN4.out.1.1 HN4.out.1.2.1 HN4.out.2.1 HN4.out.2.2.1 HN4.out.1.2.2 HN4.out.2.2.2).mono ?_
 rintro e w5 ⟨v5,rfl,⟨s5,t5,rfl,hs5,ht5⟩,hB5⟩
 obtain ⟨pa,na,ca,rfl⟩:=hs5.form_
 obtain ⟨pb,nb,cb,rfl⟩:=ht5.form_
 have HB5:=hid2 (bstep HB4.out.1 hB5) (bstep HB4.out.2 hB5)
 have HN5:Hid ((Nums .i64 w5 (.slice p3 n3 c3) ta.1∧Nums .i64 w5 (.slice p4 n4 c4) ta.2∧n4≤c4)∧Nums .i64 w5 (.slice p5 n5 c5) tb_.1∧Nums .i64 w5 (.slice p6 n6 c6) tb_.2∧n6≤c6):=⟨⟨HN4.out.1.1.up hB5,HN4.out.1.2.1.up hB5,HN4.out.1.2.2⟩,HN4.out.2.1.up hB5,HN4.out.2.2.1.up hB5,HN4.out.2.2.2⟩
 have HR5:Hid (OwnK .i64 3 w5 W0.heap.size (.slice pa na ca) RA.1∧OwnK .i64 22 w5 W0.heap.size (.slice pb nb cb) RA.2):=⟨hs5.low HB4.out.2.size,ht5.low HB4.out.2.size⟩
 have HX5:w5.heap[w.heap.size]?=some (.cells #[.int .i64 op,.int .i64 a,.int .i64 b,.int .i64 k,.slice ps ns_ cs,.slice pt nt ct] 58 (0,0)):=(HB5.out.2.block _ (heap_lt XN.out)).trans XN.out
 obtain ⟨⟨k0,k1,k2,k3,k4,k5⟩,_⟩:=box6 HX5
 have kz:=heap_lt HX5
 obtain ⟨xa0,xa1,_,_⟩:=XA4.out.up hB5
 have ka:=cell_lt xa0
 obtain ⟨xb0,xb1,_,_⟩:=XB4.out.up hB5
 have kb:=cell_lt xb0
 obtain ⟨xg0,xg1,_,_⟩:=XG.out.up HB5.out.2
 have kg:=cell_lt xg0
 clear hs5 ht5 hB5 cga HB4 HN4 XA4 XB4
 go_wp2_with fail
 generalize hW6:World.alloc _ _=W6
 have B6:Below w5.heap.size w5 W6:=by rw [← hW6];exact up_alloc _ _
 have XF6:Hid (Cel W6 w5.heap.size (.slice pa na ca) (.slice pb nb cb)):=celW hW6 (by simp [go_sem])
 have HB6:=hid2 (bstep HB5.out.1 B6) (bstep HB5.out.2 B6)
 have HN6:Hid ((Nums .i64 W6 (.slice p3 n3 c3) ta.1∧Nums .i64 W6 (.slice p4 n4 c4) ta.2∧n4≤c4)∧Nums .i64 W6 (.slice p5 n5 c5) tb_.1∧Nums .i64 W6 (.slice p6 n6 c6) tb_.2∧n6≤c6):=⟨⟨HN5.out.1.1.up B6,HN5.out.1.2.1.up B6,HN5.out.1.2.2⟩,HN5.out.2.1.up B6,HN5.out.2.2.1.up B6,HN5.out.2.2.2⟩
 have HR6:Hid (OwnK .i64 3 W6 W0.heap.size (.slice pa na ca) RA.1∧OwnK .i64 22 W6 W0.heap.size (.slice pb nb cb) RA.2):=⟨HR5.out.1.up B6,HR5.out.2.up B6⟩
 clear hW6 B6 HB5 HN5 HX5 k0 k1 k2 k3 k4 k5 kz xa0 xa1 ka xb0 xb1 kb xg0 xg1 kg HR5
 refine (cgb.out W6 _ _ _ _ _ _ _ _ _ _ _ _ HB6.out.1 HN6.out.1.1 HN6.out.1.2.1 HN6.out.2.1 HN6.out.2.2.1 HN6.out.1.2.2 HN6.out.2.2.2).mono ?_
 rintro e w7 ⟨v7,rfl,⟨s7,t7,rfl,hs7,ht7⟩,hB7⟩
 obtain ⟨pc,nc,cc,rfl⟩:=hs7.form_
 obtain ⟨pd,nd,cd,rfl⟩:=ht7.form_
 have HB7:=hid2 (bstep HB6.out.1 hB7) (bstep HB6.out.2 hB7)
 have HR7:Hid ((OwnK .i64 3 w7 W0.heap.size (.slice pa na ca) RA.1∧OwnK .i64 22 w7 W0.heap.size (.slice pb nb cb) RA.2)∧OwnK .i64 3 w7 W0.heap.size (.slice pc nc cc) RB.1∧OwnK .i64 22 w7 W0.heap.size (.slice pd nd cd) RB.2):=⟨⟨HR6.out.1.up hB7,HR6.out.2.up hB7⟩,hs7.low HB6.out.2.size,ht7.low HB6.out.2.size⟩
 have XF7:Hid (Cel w7 w5.heap.size (.slice pa na ca) (.slice pb nb cb)):=XF6.out.up hB7
 clear hs7 ht7 hB7 cgb HB6 HN6 XF6 HR6
 go_wp2_with fail
 generalize hW8:World.alloc _ _=W8
 have B8:Below w7.heap.size w7 W8:=by rw [← hW8];exact up_alloc _ _
 have XH8:Cel W8 w7.heap.size (.slice pc nc cc) (.slice pd nd cd):=(celW hW8 (by simp [go_sem])).out
 have XF8:=XF7.out.up B8
 have HB8:=hid2 (bstep HB7.out.1 B8) (bstep HB7.out.2 B8)
 have HR8:Hid ((OwnK .i64 3 W8 W0.heap.size (.slice pa na ca) RA.1∧OwnK .i64 22 W8 W0.heap.size (.slice pb nb cb) RA.2)∧OwnK .i64 3 W8 W0.heap.size (.slice pc nc cc) RB.1∧OwnK .i64 22 W8 W0.heap.size (.slice pd nd cd) RB.2):=⟨⟨HR7.out.1.1.up B8,HR7.out.1.2.up B8⟩,HR7.out.2.1.up B8,HR7.out.2.2.up B8⟩
 have h56:=cell_lt XF7.out.1
 have h5s:=HB7.out.2.size
 have hx7:=cell_lt X7.out.1
 have x6:=X6.out.up HB8.out.2
 have x7:=X7.out.up HB8.out.2
 have X68:Hid (Cel W8 (w.heap.size+2) (.slice none 0 0) (.slice none 0 0)):=x6
 have X78:Hid (Cel W8 (w.heap.size+3) (.slice none 0 0) (.slice none 0 0)):=x7
 obtain ⟨u0,u1,u2,u3⟩:=x6
 obtain ⟨v0,v1,v2,v3⟩:=x7
 obtain ⟨f0,f1,_,_⟩:=XF8
 obtain ⟨y0,y1,_,_⟩:=XH8
 have j0:=cell_lt u0
 have j1:=cell_lt v0
 have j2:=cell_lt f0
 have j3:=cell_lt y0
 clear hW8 B8 HB7 HR7 XF7
 go_region
 generalize hZ:World.drew _=Z
 obtain ⟨HZ,⟨e0,e1⟩,e2,e3⟩:=fin22z (w:=w) (B:=W0.heap.size) (Z:=Z) rfl (by rw [← hZ];exact below_drew1 (Below.refl _ _)) X68.out X78.out (by omega) HB8.out.1 (by omega) (by omega) (by omega) (by omega) HR8.out.1.1 HR8.out.1.2 HR8.out.2.1 HR8.out.2.2
 clear hZ
 go_wp2
 exact bodyPost_ret (v:=.tuple #[.agg #[.slice pa na ca,.slice pb nb cb],.agg #[.slice pc nc cc,.slice pd nd cd],.int .i64 0]) (by simp [results,Tryz.results58,go_sem,e0,e1,e2,e3]) rfl ⟨_,_,rfl,HZ.out⟩
/-- A row of tensors in a block, cell by cell. -/
def TsK (W:World) (B:Nat) (l:List Ten) (xs:List Value):Prop:=xs.length=l.length*2∧∀ i t,l[i]?=some t→∃ s u,xs[i*2]?=some s∧xs[i*2+1]?=some u∧OwnK .i64 3 W B s t.1∧OwnK .i64 22 W B u t.2
theorem TsK.only {S:List TypeId} {W W':World} {B:Nat} {l:List Ten} {xs:List Value} (h:TsK W B l xs) (ho:Only S W W') (h1:3∉S) (h2:22∉S):TsK W' B l xs:=⟨h.1,fun i t hi=>by
 obtain ⟨s,u,a1,a2,a3,a4⟩:=h.2 i t hi
 exact ⟨s,u,a1,a2,a3.only ho h1,a4.only ho h2⟩⟩
theorem TsK.set {W:World} {B:Nat} {l:List Ten} {xs:List Value} (h:TsK W B l xs) {j:Nat} (hj:j < l.length) {s u:Value} {t:Ten} (hs:OwnK .i64 3 W B s t.1) (hu:OwnK .i64 22 W B u t.2):TsK W B (l.set j t) ((xs.set (j*2) s).set (j*2+1) u):=by
 have hl:=h.1
 refine ⟨by simp [h.1],fun i t' hi=>?_⟩
 rw [List.getElem?_set] at hi
 by_cases e:j=i
 ·subst e
  rw [if_pos rfl,if_pos hj] at hi
  cases hi
  refine ⟨s,u,?_,?_,hs,hu⟩
  ·rw [List.getElem?_set,if_neg (by omega),List.getElem?_set,if_pos rfl,if_pos (by omega)]
  ·rw [List.getElem?_set,if_pos rfl,if_pos (by rw [List.length_set];omega)]
 ·rw [if_neg e] at hi
  obtain ⟨s',u',a1,a2,a3,a4⟩:=h.2 i t' hi
  refine ⟨s',u',?_,?_,a3,a4⟩
  ·rw [List.getElem?_set,if_neg (by omega),List.getElem?_set,if_neg (by omega)]
   exact a1
  ·rw [List.getElem?_set,if_neg (by omega),List.getElem?_set,if_neg (by omega)]
   exact a2
/-- A sweep on its way: the tape, the gradients so far, which nodes were given anything. -/
structure SwC (W:World) (B sb tb gb vb N:Nat) (l:List Ten) (gv:List Bool):Prop where
 hs:W.heap[sb]?=some (.cells #[.pointer (some ⟨tb,0,none⟩),.slice (some ⟨gb,0,none⟩) N N,.slice (some ⟨vb,0,none⟩) N N] 70 (0,0))
 hg:∃ xs,W.heap[gb]?=some (.cells xs.toArray 32 (0,0))∧TsK W B l xs
 hv:W.heap[vb]?=some (.cells (gv.map Value.bool).toArray 4 (0,0))
 bs:B≤sb∧B≤gb∧B≤vb
 ll:l.length=N
 lv:gv.length=N
theorem SwC.up {W W':World} {B sb tb gb vb N:Nat} {l:List Ten} {gv:List Bool} (h:SwC W B sb tb gb vb N l gv) (hB:Below W.heap.size W W'):SwC W' B sb tb gb vb N l gv:=by
 obtain ⟨xs,hx,hk⟩:=h.hg
 exact ⟨(hB.block _ (heap_lt h.hs)).trans h.hs,⟨xs,(hB.block _ (heap_lt hx)).trans hx,hk.only (S:=[]) (Only.of hB) (by simp) (by simp)⟩,(hB.block _ (heap_lt h.hv)).trans h.hv,h.bs,h.ll,h.lv⟩
theorem box_cell {W:World} {b i:Nat} {cs:Array Value} {e:TypeId} {v:Value} (h:W.heap[b]?=some (.cells cs e (0,0))) (hv:cs[i]?=some v):W.cell? ⟨b,i,none⟩=some v∧W.frozen? ⟨b,i,none⟩=false:=by
 constructor
 ·unfold World.cell?
  simpa [h] using hv
 ·unfold World.frozen?
  simp [h]
theorem kind_ne {W:World} {b b':Nat} {cs cs':Array Value} {e e':TypeId} (h:W.heap[b]?=some (.cells cs e (0,0))) (h':W.heap[b']?=some (.cells cs' e' (0,0))) (hne:e≠e'):b≠b':=fun eq=>by
 subst eq
 rw [h] at h'
 cases h'
 exact hne rfl
theorem SwC.tape {W:World} {B sb tb gb vb N:Nat} {l:List Ten} {gv:List Bool} (h:SwC W B sb tb gb vb N l gv):W.cell? ⟨sb,0,none⟩=some (.pointer (some ⟨tb,0,none⟩))∧W.cell? ⟨sb,1,none⟩=some (.slice (some ⟨gb,0,none⟩) N N)∧W.cell? ⟨sb,2,none⟩=some (.slice (some ⟨vb,0,none⟩) N N):=
 ⟨(box_cell h.hs rfl).1,(box_cell h.hs rfl).1,(box_cell h.hs rfl).1⟩
theorem SwC.read {W:World} {B sb tb gb vb N:Nat} {l:List Ten} {gv:List Bool} (h:SwC W B sb tb gb vb N l gv) {i:Nat} {t:Ten} (hi:l[i]?=some t):
  ∃ s u,(W.cell? ⟨gb,i*2,none⟩=some s∧W.frozen? ⟨gb,i*2,none⟩=false)∧(W.cell? ⟨gb,i*2+1,none⟩=some u∧W.frozen? ⟨gb,i*2+1,none⟩=false)∧OwnK .i64 3 W B s t.1∧OwnK .i64 22 W B u t.2:=by
 obtain ⟨xs,hx,hk⟩:=h.hg
 obtain ⟨s,u,a1,a2,a3,a4⟩:=hk.2 i t hi
 exact ⟨s,u,box_cell hx (by simpa using a1),box_cell hx (by simpa using a2),a3,a4⟩
theorem SwC.flag {W:World} {B sb tb gb vb N:Nat} {l:List Ten} {gv:List Bool} (h:SwC W B sb tb gb vb N l gv) {i:Nat} (hi:i < N):W.cell? ⟨vb,i,none⟩=some (.bool (gv.getD i false))∧W.frozen? ⟨vb,i,none⟩=false:=by
 refine box_cell h.hv ?_
 have:=h.lv
 rw [List.getElem?_toArray,List.getElem?_map,List.getD_eq_getElem?_getD,List.getElem?_eq_getElem (by omega)]
 rfl
theorem SwC.set {W:World} {B sb tb gb vb N:Nat} {l:List Ten} {gv:List Bool} (h:SwC W B sb tb gb vb N l gv) {j:Nat} (hj:j < N) {s u:Value} {t:Ten} (hs:OwnK .i64 3 W B s t.1) (hu:OwnK .i64 22 W B u t.2):SwC ((W.setCell ⟨gb,j*2,none⟩ s).setCell ⟨gb,j*2+1,none⟩ u) B sb tb gb vb N (l.set j t) gv:=by
 obtain ⟨xs,hx,hk⟩:=h.hg
 have n1:sb≠gb:=kind_ne h.hs hx (by decide)
 have n2:vb≠gb:=kind_ne h.hv hx (by decide)
 have o1:=Only.set (S:=[32]) (o:=j*2) (x:=s) hx (by simp)
 have x1:=heap_setat (o:=j*2) (x:=s) hx
 have o2:=Only.set (S:=[32]) (o:=j*2+1) (x:=u) x1 (by simp)
 have x2:=heap_setat (o:=j*2+1) (x:=u) x1
 refine ⟨?_,⟨(xs.set (j*2) s).set (j*2+1) u,?_,(hk.set (by rw [h.ll];exact hj) hs hu).only (o1.trans o2) (by decide) (by decide)⟩,?_,h.bs,by rw [List.length_set];exact h.ll,h.lv⟩
 ·rw [heap_set _ _ _ _ _ n1,heap_set _ _ _ _ _ n1]
  exact h.hs
 ·rw [x2]
  simp
 ·rw [heap_set _ _ _ _ _ n2,heap_set _ _ _ _ _ n2]
  exact h.hv
theorem SwC.mark {W:World} {B sb tb gb vb N:Nat} {l:List Ten} {gv:List Bool} (h:SwC W B sb tb gb vb N l gv) (j:Nat):SwC (W.setCell ⟨vb,j,none⟩ (.bool true)) B sb tb gb vb N l (gv.set j true):=by
 obtain ⟨xs,hx,hk⟩:=h.hg
 have n1:sb≠vb:=kind_ne h.hs h.hv (by decide)
 have n2:gb≠vb:=kind_ne hx h.hv (by decide)
 have o1:=Only.set (S:=[4]) (o:=j) (x:=.bool true) h.hv (by simp)
 refine ⟨?_,⟨xs,?_,hk.only o1 (by decide) (by decide)⟩,?_,h.bs,h.ll,by rw [List.length_set];exact h.lv⟩
 ·rw [heap_set _ _ _ _ _ n1]
  exact h.hs
 ·rw [heap_set _ _ _ _ _ n2]
  exact hx
 ·rw [heap_setat h.hv]
  simp [List.map_set]
/-- All that stood stands but two blocks. -/
def But2 (x y:Nat) (W W':World):Prop:=W.heap.size≤W'.heap.size∧∀ k,k < W.heap.size→k≠x→k≠y→W'.heap[k]?=W.heap[k]?
theorem But2.of {x y:Nat} {W W':World} (h:Below W.heap.size W W'):But2 x y W W':=⟨h.size,fun k hk _ _=>h.block k hk⟩
theorem But2.set {x y:Nat} {W W':World} (h:But2 x y W W') {b o:Nat} {v:Value} (hb:b=x∨b=y):But2 x y W (W'.setCell ⟨b,o,none⟩ v):=⟨by simpa using h.1,fun k hk h1 h2=>by
 rw [heap_set _ _ _ _ _ (by rcases hb with rfl|rfl <;> assumption)]
 exact h.2 k hk h1 h2⟩
theorem But2.up {x y:Nat} {W W' W'':World} (h:But2 x y W W') (h2:Below W'.heap.size W' W''):But2 x y W W'':=⟨Nat.le_trans h.1 h2.size,fun k hk h3 h4=>(h2.block k (Nat.lt_of_lt_of_le hk h.1)).trans (h.2 k hk h3 h4)⟩
theorem But2.only {x y:Nat} {W W':World} (h:But2 x y W W') {cs cs':Array Value} {e e':TypeId} (hx:W.heap[x]?=some (.cells cs e (0,0))) (hy:W.heap[y]?=some (.cells cs' e' (0,0))):Only [e,e'] W W':=⟨h.1,fun k hk hp=>h.2 k hk (fun ek=>by subst ek;exact hp _ _ _ hx (by simp)) (fun ek=>by subst ek;exact hp _ _ _ hy (by simp))⟩
theorem cadd_no (n:Int) (hn:n < 0) (sb:Nat) (p1 q1:Option Addr) (n1 c1 m1 e1:Nat) (w:World):
  Calls Tryz.prog 59 #[.pointer (some ⟨sb,0,none⟩),.int .i64 n,.agg #[.slice p1 n1 c1,.slice q1 m1 e1]] w fun e w'=>e = .returned (.int .i64 0)∧Below w.heap.size w w':=by
 have d1:decide (n < 0)=true:=decide_eq_true hn
 clear hn
 go_enter Tryz.func59,Tryz.ntmps59
 go_wp2
 exact bodyPost_ret (v:=.int .i64 0) (by simp [results,Tryz.results59,go_sem]) rfl ⟨rfl,up_alloc _ _⟩
theorem cadd_any (B sb tb gb vb N:Nat) (l:List Ten) (gv:List Bool) (j:Nat) (hj:j < N) (t p:Ten) (ht:l[j]?=some t) (gt:TenG t) (gp:TenG p) (ep:p.1=t.1) (p1 q1:Option Addr) (n1 c1 m1 e1:Nat) (w:World) (hS:SwC w B sb tb gb vb N l gv) (hB:B≤w.heap.size) (h1:Nums .i64 w (.slice p1 n1 c1) p.1) (h2:Nums .i64 w (.slice q1 m1 e1) p.2):
  Calls Tryz.prog 59 #[.pointer (some ⟨sb,0,none⟩),.int .i64 (j:Int),.agg #[.slice p1 n1 c1,.slice q1 m1 e1]] w fun e w'=>e = .returned (.int .i64 0)∧SwC w' B sb tb gb vb N (l.set j (add2 t p)) (gv.set j true)∧Below B w w'∧But2 gb vb w w':=by
 obtain ⟨A,eA⟩:∃ A,add2 t p=A:=⟨_,rfl⟩
 have hE:eachE t.1 t.2 p.1 p.2=0:=by
  obtain ⟨a,ga,ea⟩:=good_itl gt.1.1
  obtain ⟨f,jj⟩:=join_same a
  obtain ⟨k1,k2⟩:=join_fine ga ga f (by rw [jj];exact ga)
  exact (if_pos ⟨gt.1,gp.1⟩).trans (by rw [ep,ea];exact k2)
 obtain ⟨s,u,⟨c0,f0⟩,⟨d0,g0⟩,hs,hu⟩:=hS.read ht
 obtain ⟨p3,n3,c3,rfl⟩:=hs.form_
 obtain ⟨q3,m3,e3,rfl⟩:=hu.form_
 have cA:Hid (∀ W,Below w.heap.size w W→Calls Tryz.prog 42 #[.agg #[.slice p3 n3 c3,.slice q3 m3 e3],.agg #[.slice p1 n1 c1,.slice q1 m1 e1]] W fun e w'=>∃ v',e = .returned (.tuple #[v',.int .i64 0])∧TRes w' W.heap.size v' A.1 A.2∧Below W.heap.size W w'):=fun W hW=>by
  have:=tadd_any p3 q3 p1 q1 n3 c3 m3 e3 n1 c1 m1 e1 t.1 t.2 p.1 p.2 gt.2.1 gt.2.2 gp.2.1 gp.2.2 W (hs.nums.up hW) (hu.nums.up hW) (h1.up hW) (h2.up hW)
  rw [hE] at this
  rw [← eA]
  exact this
 rw [eA]
 obtain ⟨b0,b1,b2⟩:=hS.tape
 have HS:Hid (SwC w B sb tb gb vb N l gv∧B≤w.heap.size):=⟨hS,hB⟩
 have HC:Hid ((w.cell? ⟨sb,1,none⟩=some (.slice (some ⟨gb,0,none⟩) N N))∧w.cell? ⟨gb,j*2,none⟩=some (.slice p3 n3 c3)∧w.cell? ⟨gb,j*2+1,none⟩=some (.slice q3 m3 e3)):=⟨b1,c0,d0⟩
 have hj':(j:Int) < (N:Int):=by omega
 have d1:decide ((j:Int) < 0)=false:=decide_eq_false (by omega)
 haveI:Nonempty World:=⟨w⟩
 clear eA hE hs hu h1 h2 gt gp ep ht hS hB b0 b1 b2 c0 d0 f0 g0
 go_enter Tryz.func59,Tryz.ntmps59
 go_wp2_with fail
 generalize hW0:World.alloc _ _=W0
 have HB0:=hidB (w:=w) hW0 (by go_grown)
 have XP:Hid (Cel W0 w.heap.size (.slice p1 n1 c1) (.slice q1 m1 e1)):=celW hW0 (by simp [go_sem])
 clear hW0
 have b1:=cell_low HC.out.1 HB0.out
 have c0:=cell_low HC.out.2.1 HB0.out
 have c1_:=cell_low HC.out.2.2 HB0.out
 obtain ⟨x0,x1,_,_⟩:=XP.out
 have kb:=cell_lt b1
 have kc:=cell_lt c0
 have kx:=cell_lt x0
 refine relE [⟨8,20,TupP W0.heap.size A.1 A.2 0⟩,⟨9,11,TupP W0.heap.size A.1 A.2 0⟩,⟨10,21,OwnT W0.heap.size A.1 A.2⟩,⟨12,7,NewC W0.heap.size⟩] 13 39 (by kernel_rfl) rfl rfl 11 _ rfl (by decide) rfl (by kernel_rfl) (by kernel_rfl) (fun _ _ _ _ h=>h) (by rfl) ?_ ?_
 ·intro e he v W W' h hb
  simp only [List.mem_cons,List.not_mem_nil,or_false] at he
  rcases he with rfl|rfl|rfl|rfl
  ·exact TupP.up h hb
  ·exact TupP.up h hb
  ·exact OwnT.up h hb
  ·exact NewC.up h hb
 apply Exists.intro
 refine ⟨?yl1,?wk1,?pk1,?rest1⟩
 case wk1=>
  intro x
  simp only [List.take_succ_cons,List.take_zero]
  iterate 8
   refine relQuiet rfl rfl ?_
   apply Exists.intro
   refine ⟨fun F hF hf K hK=>?_,?_⟩
   ·have hFc:=hF.cell
    have hFf:=hF.frozen
    go_big_quiet_op
    first|exact hK|(apply Exists.intro;refine ⟨fun _=>?_,?_⟩;(· fail);exact hK)
   (try simp only [Act.put,List.setIfInBounds_toArray,List.set_cons_zero,List.set_cons_succ])
  refine relTold rfl rfl ?_ ?_
  ·intro F hF hf d
   have hFc:=hF.cell
   have hFf:=hF.frozen
   simp [yieldsR,yieldsUpon,go_sem]
   refine (cA.out (F d) (bstep HB0.out (hF.below d))).mono ?_
   rintro e' w8 ⟨v8,rfl,h8,hb8⟩
   exact ⟨_,rfl,⟨v8,rfl,(h8.low (hF.below d).size).own⟩,hb8⟩
  (try simp only [Act.put,List.setIfInBounds_toArray,List.set_cons_zero,List.set_cons_succ])
  refine relTold rfl rfl ?_ ?_
  ·intro F hF hf d
   have hFc:=hF.cell
   have hFf:=hF.frozen
   have h9:=hf _ List.mem_cons_self (by rfl) d
   simp [yieldsR,yieldsUpon,go_sem]
   exact ⟨h9,Below.refl _ _⟩
  (try simp only [Act.put,List.setIfInBounds_toArray,List.set_cons_zero,List.set_cons_succ])
  refine relTold rfl rfl ?_ ?_
  ·intro F hF hf d
   have hFc:=hF.cell
   have hFf:=hF.frozen
   have h9:=hf _ (List.mem_cons_of_mem _ List.mem_cons_self) (by rfl) d
   obtain ⟨u9,e9,o9⟩:=h9
   simp only [] at e9
   simp [yieldsR,yieldsUpon,go_sem,e9]
   exact ⟨o9,Below.refl _ _⟩
  (try simp only [Act.put,List.setIfInBounds_toArray,List.set_cons_zero,List.set_cons_succ])
  refine relQuiet rfl rfl ?_
  apply Exists.intro
  refine ⟨fun F hF hf K hK=>?_,?_⟩
  ·have hFc:=hF.cell
   have hFf:=hF.frozen
   have h9:=hf _ (List.mem_cons_of_mem _ List.mem_cons_self) (by rfl)
   obtain ⟨u9,e9,_⟩:=h9 W0
   simp only [] at e9
   go_big_quiet_op
   first|exact hK|(apply Exists.intro;refine ⟨fun _=>?_,?_⟩;(· fail);exact hK)
  (try simp only [Act.put,List.setIfInBounds_toArray,List.set_cons_zero,List.set_cons_succ])
  refine relTold rfl rfl ?_ ?_
  ·intro F hF hf d
   have hFc:=hF.cell
   have hFf:=hF.frozen
   simp [yieldsR,yieldsUpon,go_sem]
   exact ⟨⟨(F d).heap.size,rfl,by show ((F d).heap.push _)[(F d).heap.size]?=_;simp,(hF.below d).size⟩,up_alloc _ _⟩
  (try simp only [Act.put,List.setIfInBounds_toArray,List.set_cons_zero,List.set_cons_succ])
  refine relEnd ?_
  exact rfl
 case pk1=>
  intro x
  simp only [putsK,List.foldl_cons,List.foldl_nil,Act.put,List.setIfInBounds_toArray,List.set_cons_zero,List.set_cons_succ]
 case yl1=>
  intro x hx
  obtain ⟨W9,u9,e9,_⟩:=hx _ (List.mem_cons_of_mem _ List.mem_cons_self) (by rfl)
  simp only [] at e9
  refine ⟨.int .i64 0,fun t ht=>?_,.inl ⟨by rfl,fun w=>?_⟩⟩
  ·cases ht
   rfl
  ·simp [execOp,Act.eval,e9,go_sem]
 intro z1 xs hBz1 hf
 simp only [List.drop_succ_cons,List.drop_zero]
 obtain ⟨pa,na,ca,pb,nb,cb,ev,o1,o2⟩:=hf _ (List.mem_cons_of_mem _ (List.mem_cons_of_mem _ List.mem_cons_self))
 obtain ⟨g6,eb,hb1,hb2⟩:=hf _ (List.mem_cons_of_mem _ (List.mem_cons_of_mem _ (List.mem_cons_of_mem _ List.mem_cons_self)))
 simp only [] at ev eb
 obtain ⟨x8,e8⟩:∃ q,xs 8=q:=⟨_,rfl⟩
 obtain ⟨x9,e9⟩:∃ q,xs 9=q:=⟨_,rfl⟩
 simp only [ev,eb,e8,e9]
 have f1:=o1.off_type hb1 (by decide)
 have f2:=o2.off_type hb1 (by decide)
 have hS1:Below W0.heap.size W0 (set2 z1 g6 (.slice pa na ca) (.slice pb nb cb)):=below_set2 hBz1 g6 hb2 _ _
 have hSw:SwC (set2 z1 g6 (.slice pa na ca) (.slice pb nb cb)) B sb tb gb vb N l gv:=(HS.out.1.up HB0.out).up hS1
 have q1:OwnK .i64 3 (set2 z1 g6 (.slice pa na ca) (.slice pb nb cb)) B (.slice pa na ca) A.1:=(o1.stay (Stay.set2 _ _ _) f1).low (by have:=HB0.out.size;have:=HS.out.2;omega)
 have q2:OwnK .i64 22 (set2 z1 g6 (.slice pa na ca) (.slice pb nb cb)) B (.slice pb nb cb) A.2:=(o2.stay (Stay.set2 _ _ _) f2).low (by have:=HB0.out.size;have:=HS.out.2;omega)
 have hBw:Below w.heap.size w (set2 z1 g6 (.slice pa na ca) (.slice pb nb cb)):=bstep HB0.out hS1
 have hC6:Cel (set2 z1 g6 (.slice pa na ca) (.slice pb nb cb)) g6 (.slice pa na ca) (.slice pb nb cb):=(new_cel hb1).set _ _
 have HF:Hid ((SwC (set2 z1 g6 (.slice pa na ca) (.slice pb nb cb)) B sb tb gb vb N l gv∧OwnK .i64 3 (set2 z1 g6 (.slice pa na ca) (.slice pb nb cb)) B (.slice pa na ca) A.1∧OwnK .i64 22 (set2 z1 g6 (.slice pa na ca) (.slice pb nb cb)) B (.slice pb nb cb) A.2)∧Below w.heap.size w (set2 z1 g6 (.slice pa na ca) (.slice pb nb cb))∧Cel (set2 z1 g6 (.slice pa na ca) (.slice pb nb cb)) g6 (.slice pa na ca) (.slice pb nb cb)):=⟨⟨hSw,q1,q2⟩,hBw,hC6⟩
 obtain ⟨y0,y1,y2,y3⟩:=new_cel hb1
 have cz:=cell_lt y0
 clear hf ev eb e8 e9 f1 f2 o1 o2 cA b1 c0 c1_ x0 x1 kb kc kx hS1 hSw q1 q2 hBw hC6 hBz1 hb1 hb2 HC XP HB0
 go_wp2_with fail
 obtain ⟨W1,eW1⟩:∃ W1,(set2 z1 g6 (.slice pa na ca) (.slice pb nb cb))=W1:=⟨_,rfl⟩
 rw [show ((z1.setCell ⟨g6,0,none⟩ (.slice pa na ca)).setCell ⟨g6,1,none⟩ (.slice pb nb cb))=W1 from eW1]
 rw [eW1] at HF
 clear eW1 y0 y1 y2 y3 cz
 obtain ⟨y0,y1,_,_⟩:=HF.out.2.2
 have cz:=cell_lt y0
 obtain ⟨b0,b1,b2⟩:=HF.out.1.1.tape
 have kb:=cell_lt b1
 obtain ⟨xs9,hx9,hk9⟩:=HF.out.1.1.hg
 have hl9:=hk9.1
 have hN9:=HF.out.1.1.ll
 obtain ⟨va,i0,i1⟩:∃ va,W1.cell? ⟨gb,j*2,none⟩=some va∧W1.frozen? ⟨gb,j*2,none⟩=false:=⟨_,box_cell hx9 (by rw [List.getElem?_toArray];exact List.getElem?_eq_getElem (by omega))⟩
 obtain ⟨vc,i2,i3⟩:∃ va,W1.cell? ⟨gb,j*2+1,none⟩=some va∧W1.frozen? ⟨gb,j*2+1,none⟩=false:=⟨_,box_cell hx9 (by rw [List.getElem?_toArray];exact List.getElem?_eq_getElem (by omega))⟩
 obtain ⟨v0,v1⟩:=HF.out.1.1.flag hj
 have kg:=cell_lt i0
 have kv:=cell_lt v0
 have hne:gb≠vb:=kind_ne hx9 HF.out.1.1.hv (by decide)
 have hne2:sb≠gb:=kind_ne HF.out.1.1.hs hx9 (by decide)
 have hne3:sb≠vb:=kind_ne HF.out.1.1.hs HF.out.1.1.hv (by decide)
 have HZ:Hid (SwC (((W1.setCell ⟨gb,j*2,none⟩ (.slice pa na ca)).setCell ⟨gb,j*2+1,none⟩ (.slice pb nb cb)).setCell ⟨vb,j,none⟩ (.bool true)) B sb tb gb vb N (l.set j A) (gv.set j true)∧Below B w (((W1.setCell ⟨gb,j*2,none⟩ (.slice pa na ca)).setCell ⟨gb,j*2+1,none⟩ (.slice pb nb cb)).setCell ⟨vb,j,none⟩ (.bool true))∧But2 gb vb w (((W1.setCell ⟨gb,j*2,none⟩ (.slice pa na ca)).setCell ⟨gb,j*2+1,none⟩ (.slice pb nb cb)).setCell ⟨vb,j,none⟩ (.bool true))):=by
  have h:=(HF.out.1.1.set hj HF.out.1.2.1 HF.out.1.2.2).mark j
  have bs:=HF.out.1.1.bs
  exact ⟨h,(((HF.out.2.1.mono HS.out.2).setCell (p:=⟨gb,j*2,none⟩) bs.2.1 _).setCell (p:=⟨gb,j*2+1,none⟩) bs.2.1 _).setCell (p:=⟨vb,j,none⟩) bs.2.2 _,((((But2.of HF.out.2.1).set (.inl rfl)).set (.inl rfl)).set (.inr rfl))⟩
 clear hx9 hk9 hl9 hN9
 go_region
 generalize hZ:World.drew _=Z
 have HZ2:Hid (SwC Z B sb tb gb vb N (l.set j A) (gv.set j true)∧Below B w Z∧But2 gb vb w Z):=by
  have d:∀ {U:World},U.drew=Z→Below U.heap.size U Z:=fun h=>by rw [← h];exact below_drew1 (Below.refl _ _)
  exact ⟨HZ.out.1.up (d hZ),HZ.out.2.1.trans ((d hZ).mono (Nat.le_trans HS.out.2 (by have:=HF.out.2.1.size;simpa using this))),HZ.out.2.2.up (d hZ)⟩
 clear hZ HZ HF
 go_wp2
 exact bodyPost_ret (v:=.int .i64 0) (by simp [results,Tryz.results59,go_sem]) rfl ⟨rfl,HZ2.out⟩
def TupR (B:Nat) (a b:Ten) (v:Value) (W:World):Prop:=∃ u q,v = .tuple #[u,q,.int .i64 0]∧OwnT B a.1 a.2 u W∧OwnT B b.1 b.2 q W
theorem TupR.up {B:Nat} {a b:Ten} {v:Value} {W W':World} (h:TupR B a b v W) (hB:Below W.heap.size W W'):TupR B a b v W':=by
 obtain ⟨u,q,e,h1,h2⟩:=h
 exact ⟨u,q,e,h1.up hB,h2.up hB⟩
theorem cpass_any (B B0 tb:Nat) (ns:List Nd) (hG:NodesG ns) (hV:NodesV ns) (hNK:NodesK ns) (root i:Nat) (hr:root < ns.length) (hi:i≤root) (sw:SwT) (hsg:SwG ns root sw) (sb gb vb:Nat) (w:World) (hT:TapC w B0 tb ns) (hTz:Hid (Tz w)) (hS:SwC w B sb tb gb vb (root+1) sw.1 sw.2) (hB:B≤w.heap.size):
  Calls Tryz.prog 27 #[.pointer (some ⟨sb,0,none⟩),.int .i64 (i:Int)] w fun e w'=>e = .returned (.int .i64 0)∧SwC w' B sb tb gb vb (root+1) (swStep ns i sw).1 (swStep ns i sw).2∧Below B w w':=by
 obtain ⟨N,eN⟩:∃ N,root+1=N:=⟨_,rfl⟩
 rw [eN] at hS ⊢
 have hiN:i < N:=by omega
 have hiN':(i:Int) < (N:Int):=by omega
 obtain ⟨b0,b1,b2⟩:=hS.tape
 obtain ⟨v0,v1⟩:=hS.flag hiN
 have kb:=cell_lt b0
 have kv:=cell_lt v0
 by_cases hgv:sw.2.getD i false=true
 rotate_left
 ·have e0:swStep ns i sw=sw:=if_neg fun h=>hgv h.1
  rw [e0]
  have e1:sw.2.getD i false=false:=by simpa using hgv
  rw [e1] at v0
  have HS:Hid (SwC w B sb tb gb vb N sw.1 sw.2):=hS
  clear hS hT hG hV hNK hsg hTz e0 e1 hgv eN
  go_enter Tryz.func27,Tryz.ntmps27
  go_wp2
  exact bodyPost_ret (v:=.int .i64 0) (by simp [results,Tryz.results27,go_sem]) rfl ⟨rfl,HS.out,Below.refl _ _⟩
 rw [hgv] at v0
 obtain ⟨⟨op,a,b,k,D,X⟩,end_⟩:∃ nd,ndN ns (i:Int)=nd:=⟨_,rfl⟩
 have hnd:ns[i]?=some ⟨op,a,b,k,D,X⟩:=by rw [← end_];exact ndN_get (by omega)
 obtain ⟨g,eg⟩:∃ g,sw.1.getD i noT=g:=⟨_,rfl⟩
 have hgl:sw.1[i]?=some g:=by rw [← eg,List.getD_eq_getElem?_getD,List.getElem?_eq_getElem (by rw [hsg.l];omega)];rfl
 have hg:=hsg.g i hi
 rw [eg,end_] at hg
 obtain ⟨gs,gu,⟨c0,f0⟩,⟨c1,f1⟩,hgs,hgu⟩:=hS.read hgl
 obtain ⟨p,n,c,rfl⟩:=hgs.form_
 obtain ⟨p2,n2,c2,rfl⟩:=hgu.form_
 obtain ⟨RA,eRA⟩:∃ R,onA op k (aOf ns ⟨op,a,b,k,D,X⟩) (bOf ns ⟨op,a,b,k,D,X⟩) g=R:=⟨_,rfl⟩
 obtain ⟨RB,eRB⟩:∃ R,onB op k (aOf ns ⟨op,a,b,k,D,X⟩) (bOf ns ⟨op,a,b,k,D,X⟩) g=R:=⟨_,rfl⟩
 have cAt:Hid (∀ W,Below w.heap.size w W→Calls Tryz.prog 56 #[.pointer (some ⟨tb,0,none⟩),.int .i64 (i:Int)] W fun e w'=>∃ s t,e = .returned (.tuple #[.agg #[.int .i64 op,.int .i64 a,.int .i64 b,.int .i64 k,s,t],.bool true])∧OwnK .i64 3 w' W.heap.size s D∧OwnK .i64 22 w' W.heap.size t X∧Below W.heap.size W w'):=fun W hW=>cat_any B0 tb ns hG i _ hnd W (hT.up hW)
 have cGv:Hid (∀ W ps ns_ cs pt nt ct,Below w.heap.size w W→Calls Tryz.prog 58 #[.pointer (some ⟨tb,0,none⟩),.agg #[.int .i64 op,.int .i64 a,.int .i64 b,.int .i64 k,.slice ps ns_ cs,.slice pt nt ct],.agg #[.slice p n c,.slice p2 n2 c2]] W fun e w'=>∃ u v,e = .returned (.tuple #[u,v,.int .i64 0])∧TRes w' W.heap.size u RA.1 RA.2∧TRes w' W.heap.size v RB.1 RB.2∧Below W.heap.size W w'):=fun W ps ns_ cs pt nt ct hW=>by
  rw [← eRA,← eRB]
  exact cgive_any B0 tb ns hG hV hNK i op a b k D X hnd ps pt p p2 ns_ cs nt ct n c n2 c2 g hg.1 hg.2 hgu.cap W (hT.up hW) (Hid.up_tz hTz hW) (hgs.nums.up hW) (hgu.nums.up hW)
 obtain ⟨s1,cA1,cA2⟩:∃ s1:SwT,Hid (∀ W p1 q1 n1 c1 m1 e1,SwC W B sb tb gb vb N sw.1 sw.2→B≤W.heap.size→Nums .i64 W (.slice p1 n1 c1) RA.1→Nums .i64 W (.slice q1 m1 e1) RA.2→Calls Tryz.prog 59 #[.pointer (some ⟨sb,0,none⟩),.int .i64 a,.agg #[.slice p1 n1 c1,.slice q1 m1 e1]] W fun e w'=>e = .returned (.int .i64 0)∧SwC w' B sb tb gb vb N s1.1 s1.2∧Below B W w'∧But2 gb vb W w')
   ∧ Hid (∀ W p1 q1 n1 c1 m1 e1,SwC W B sb tb gb vb N s1.1 s1.2→B≤W.heap.size→Nums .i64 W (.slice p1 n1 c1) RB.1→Nums .i64 W (.slice q1 m1 e1) RB.2→Calls Tryz.prog 59 #[.pointer (some ⟨sb,0,none⟩),.int .i64 b,.agg #[.slice p1 n1 c1,.slice q1 m1 e1]] W fun e w'=>e = .returned (.int .i64 0)∧SwC w' B sb tb gb vb N (swStep ns i sw).1 (swStep ns i sw).2∧Below B W w'∧But2 gb vb W w'):=by
  have no:∀ (z:Int) (s:SwT),z < 0→∀ (W:World) (p1 q1:Option Addr) (n1 c1 m1 e1:Nat),SwC W B sb tb gb vb N s.1 s.2→B≤W.heap.size→Calls Tryz.prog 59 #[.pointer (some ⟨sb,0,none⟩),.int .i64 z,.agg #[.slice p1 n1 c1,.slice q1 m1 e1]] W fun e w'=>e = .returned (.int .i64 0)∧SwC w' B sb tb gb vb N s.1 s.2∧Below B W w'∧But2 gb vb W w':=fun z s hz W p1 q1 n1 c1 m1 e1 h hb=>by
   refine (cadd_no z hz sb p1 q1 n1 c1 m1 e1 W).mono ?_
   rintro e w' ⟨rfl,hw⟩
   exact ⟨rfl,h.up hw,hw.mono hb,But2.of hw⟩
  have yes:∀ (j:Nat) (s:SwT) (R:Ten),SwG ns root s→j≤root→TenG R→R.1=(ndN ns (j:Int)).D→∀ (W:World) (p1 q1:Option Addr) (n1 c1 m1 e1:Nat),SwC W B sb tb gb vb N s.1 s.2→B≤W.heap.size→Nums .i64 W (.slice p1 n1 c1) R.1→Nums .i64 W (.slice q1 m1 e1) R.2→Calls Tryz.prog 59 #[.pointer (some ⟨sb,0,none⟩),.int .i64 (j:Int),.agg #[.slice p1 n1 c1,.slice q1 m1 e1]] W fun e w'=>e = .returned (.int .i64 0)∧SwC w' B sb tb gb vb N (swGive s j R).1 (swGive s j R).2∧Below B W w'∧But2 gb vb W w':=fun j s R hs hj hR eR W p1 q1 n1 c1 m1 e1 h hb u1 u2=>by
   have q:=hs.g j hj
   exact cadd_any B sb tb gb vb N s.1 s.2 j (by omega) (s.1.getD j noT) R (by rw [List.getD_eq_getElem?_getD,List.getElem?_eq_getElem (by rw [hs.l];omega)];rfl) q.1 hR (eR.trans q.2.symm) p1 q1 n1 c1 m1 e1 W h hb u1 u2
  have hop:(ndN ns (i:Int)).op=op:=by rw [end_]
  by_cases ho:op=1
  ·have e0:swStep ns i sw=sw:=if_neg fun h=>h.2 (hop.trans ho)
   rw [e0]
   have hab:a = -1∧b = -1:=by
    rcases hV i _ hnd with h|⟨h,_⟩
    ·exact h.2
    ·have:(2:Int)≤op:=h.1
     omega
   exact ⟨sw,fun W p1 q1 n1 c1 m1 e1 h hb _ _=>no a sw (by omega) W p1 q1 n1 c1 m1 e1 h hb,fun W p1 q1 n1 c1 m1 e1 h hb _ _=>no b sw (by omega) W p1 q1 n1 c1 m1 e1 h hb⟩
  ·obtain ⟨o1,o2⟩:=on_g hG hV hnd ho hg.1 hg.2
   simp only [] at o1 o2
   rw [eRA] at o1
   rw [eRB] at o2
   rcases hV i _ hnd with h|⟨hop2,ha,hb,hb',_⟩
   ·exact absurd h.1 ho
   simp only [] at hop2 ha hb hb'
   obtain ⟨ja,rfl⟩:∃ j:Nat,a=(j:Int):=⟨a.toNat,by omega⟩
   have gA:=hsg.give (j:=ja) (p:=RA) (by omega) o1.1 o1.2
   have hcond:sw.2.getD i false=true∧(ndN ns (i:Int)).op≠1:=⟨hgv,by rw [hop];exact ho⟩
   by_cases ht:twoP op
   ·have hbb:=hb ht
    obtain ⟨jb,rfl⟩:∃ j:Nat,b=(j:Int):=⟨b.toNat,by omega⟩
    have eD:RB.1=(ndN ns (jb:Int)).D:=(o2 ht).2.trans (show dD ns op (jb:Int)=_ by unfold dD;rw [if_pos ht])
    have e0:swStep ns i sw=swGive (swGive sw ja RA) jb RB:=by
     unfold swStep
     rw [if_pos hcond,end_]
     simp only []
     rw [if_pos hbb.1,eg,eRA,eRB]
     rfl
    rw [e0]
    exact ⟨swGive sw ja RA,yes ja sw RA hsg (by omega) o1.1 o1.2,yes jb _ RB gA (by omega) (o2 ht).1 eD⟩
   ·have hbb:=hb' ht
    have e0:swStep ns i sw=swGive sw ja RA:=by
     unfold swStep
     rw [if_pos hcond,end_]
     simp only []
     rw [if_neg (by omega),eg,eRA]
     rfl
    rw [e0]
    exact ⟨swGive sw ja RA,yes ja sw RA hsg (by omega) o1.1 o1.2,fun W p1 q1 n1 c1 m1 e1 h hb _ _=>no b _ (by omega) W p1 q1 n1 c1 m1 e1 h hb⟩
 obtain ⟨s2,es2⟩:∃ s,swStep ns i sw=s:=⟨_,rfl⟩
 rw [es2] at cA2 ⊢
 have HS:Hid (SwC w B sb tb gb vb N sw.1 sw.2∧B≤w.heap.size):=⟨hS,hB⟩
 have HC:Hid ((w.cell? ⟨sb,0,none⟩=some (.pointer (some ⟨tb,0,none⟩)))∧w.cell? ⟨sb,1,none⟩=some (.slice (some ⟨gb,0,none⟩) N N)∧w.cell? ⟨gb,i*2,none⟩=some (.slice p n c)∧w.cell? ⟨gb,i*2+1,none⟩=some (.slice p2 n2 c2)):=⟨b0,b1,c0,c1⟩
 haveI:Nonempty World:=⟨w⟩
 clear es2 eRA eRB hg hgl eg hnd end_ hgv hgs hgu hS hB hT hTz hsg hNK hV hG f0 f1 c0 c1 eN hr hi
 go_enter Tryz.func27,Tryz.ntmps27
 go_wp2_with fail
 refine (cAt.out w (Below.refl _ _)).mono ?_
 rintro e w1 ⟨s_,t_,rfl,hs_,ht_,hB1⟩
 obtain ⟨ps,ns_,cs,rfl⟩:=hs_.form_
 obtain ⟨pt,nt,ct,rfl⟩:=ht_.form_
 clear hs_ ht_ cAt b0 b1 b2 v0 v1 kb kv
 go_wp2_with fail
 generalize hW0:World.alloc _ _=W0
 have B0_:Below w1.heap.size w1 W0:=by rw [← hW0];exact up_alloc _ _
 have XN:W0.heap[w1.heap.size]?=some (.cells #[.int .i64 op,.int .i64 a,.int .i64 b,.int .i64 k,.slice ps ns_ cs,.slice pt nt ct] 58 (0,0)):=by rw [← hW0];exact heap_alloc_new _ _
 have HB0:Hid (Below w.heap.size w W0):=bstep hB1 B0_
 obtain ⟨nb,enb⟩:∃ nb,w1.heap.size=nb:=⟨_,rfl⟩
 rw [enb] at XN ⊢
 have HX:Hid (W0.heap[nb]?=some (.cells #[.int .i64 op,.int .i64 a,.int .i64 b,.int .i64 k,.slice ps ns_ cs,.slice pt nt ct] 58 (0,0))):=XN
 clear hW0 B0_ hB1 enb
 have b0:=cell_low HC.out.1 HB0.out
 have b1:=cell_low HC.out.2.1 HB0.out
 have c0:=cell_low HC.out.2.2.1 HB0.out
 have c1:=cell_low HC.out.2.2.2 HB0.out
 obtain ⟨⟨k0,k1,k2,k3,k4,k5⟩,_⟩:=box6 XN
 have kz:=heap_lt XN
 have kb:=cell_lt b0
 have kc:=cell_lt c0
 clear XN
 refine relF [⟨12,41,TupR W0.heap.size RA RB⟩,⟨13,28,TupR W0.heap.size RA RB⟩,⟨14,42,OwnT W0.heap.size RA.1 RA.2⟩,⟨15,43,OwnT W0.heap.size RB.1 RB.2⟩,⟨17,7,NewC W0.heap.size⟩,⟨18,8,NewC W0.heap.size⟩] 19 61 (by kernel_rfl) rfl rfl [15,16] (by kernel_rfl) (by kernel_rfl) (fun i0 hi o0 ho c a w v h=>?_) (by rfl) [17,18] ?fr ?fw (by decide) ?ph ?_
 ·simp only [List.mem_cons,List.not_mem_nil,or_false] at hi
  rcases hi with rfl|rfl
  ·cases ho
   exact h
  ·cases ho
   exact h
 case fr=>
  intro k hk o ho a W
  simp only [List.mem_cons,List.not_mem_nil,or_false] at hk
  rcases hk with rfl|rfl
  ·cases ho
   exact ⟨W.alloc (.cells #[.slice none 0 0,.slice none 0 0] 32),by simp [execOp,go_sem]⟩
  ·cases ho
   exact ⟨W.alloc (.cells #[.slice none 0 0,.slice none 0 0] 32),by simp [execOp,go_sem]⟩
 case fw=>
  intro e he hk v W h b0 hb0
  simp only [List.mem_cons,List.not_mem_nil,or_false] at he hk
  have q:NewC W0.heap.size v W:=by
   rcases he with rfl|rfl|rfl|rfl|rfl|rfl
   ·simp at hk
   ·simp at hk
   ·simp at hk
   ·simp at hk
   ·exact h
   ·exact h
  obtain ⟨g,e1,e2,_⟩:=q
  rw [hb0] at e1
  cases e1
  exact heap_lt e2
 case ph=>
  intro e he v W W' h hb
  simp only [List.mem_cons,List.not_mem_nil,or_false] at he
  rcases he with rfl|rfl|rfl|rfl|rfl|rfl
  ·exact TupR.up h hb
  ·exact TupR.up h hb
  ·exact OwnT.up h hb
  ·exact OwnT.up h hb
  ·exact NewC.up h hb
  ·exact NewC.up h hb
 apply Exists.intro
 refine ⟨?yt,?yl,?wk,?pk,?rest⟩
 case wk=>
  intro x
  simp only [List.take_succ_cons,List.take_zero]
  iterate 12
   refine relQuiet rfl rfl ?_
   apply Exists.intro
   refine ⟨fun F hF hf K hK=>?_,?_⟩
   ·have hFc:=hF.cell
    have hFf:=hF.frozen
    go_big_quiet_op
    first|exact hK|(apply Exists.intro;refine ⟨fun _=>?_,?_⟩;(· fail);exact hK)
   (try simp only [Act.put,List.setIfInBounds_toArray,List.set_cons_zero,List.set_cons_succ])
  refine relTold rfl rfl ?_ ?_
  ·intro F hF hf d
   have hFc:=hF.cell
   have hFf:=hF.frozen
   simp [yieldsR,yieldsUpon,go_sem]
   refine (cGv.out (F d) _ _ _ _ _ _ (bstep HB0.out (hF.below d))).mono ?_
   rintro e' w8 ⟨v8,v9,rfl,h8,h9,hb8⟩
   exact ⟨_,rfl,⟨v8,v9,rfl,(h8.low (hF.below d).size).own,(h9.low (hF.below d).size).own⟩,hb8⟩
  (try simp only [Act.put,List.setIfInBounds_toArray,List.set_cons_zero,List.set_cons_succ])
  refine relTold rfl rfl ?_ ?_
  ·intro F hF hf d
   have hFc:=hF.cell
   have hFf:=hF.frozen
   have h9:=hf _ List.mem_cons_self (by rfl) d
   simp [yieldsR,yieldsUpon,go_sem]
   exact ⟨h9,Below.refl _ _⟩
  (try simp only [Act.put,List.setIfInBounds_toArray,List.set_cons_zero,List.set_cons_succ])
  refine relTold rfl rfl ?_ ?_
  ·intro F hF hf d
   have hFc:=hF.cell
   have hFf:=hF.frozen
   have h9:=hf _ (List.mem_cons_of_mem _ List.mem_cons_self) (by rfl) d
   obtain ⟨u9,q9,e9,o9,o8⟩:=h9
   simp only [] at e9
   simp [yieldsR,yieldsUpon,go_sem,e9]
   exact ⟨o9,Below.refl _ _⟩
  (try simp only [Act.put,List.setIfInBounds_toArray,List.set_cons_zero,List.set_cons_succ])
  refine relTold rfl rfl ?_ ?_
  ·intro F hF hf d
   have hFc:=hF.cell
   have hFf:=hF.frozen
   have h9:=hf _ (List.mem_cons_of_mem _ List.mem_cons_self) (by rfl) d
   obtain ⟨u9,q9,e9,o9,o8⟩:=h9
   simp only [] at e9
   simp [yieldsR,yieldsUpon,go_sem,e9]
   exact ⟨o8,Below.refl _ _⟩
  (try simp only [Act.put,List.setIfInBounds_toArray,List.set_cons_zero,List.set_cons_succ])
  refine relQuiet rfl rfl ?_
  apply Exists.intro
  refine ⟨fun F hF hf K hK=>?_,?_⟩
  ·have hFc:=hF.cell
   have hFf:=hF.frozen
   have h9:=hf _ (List.mem_cons_of_mem _ List.mem_cons_self) (by rfl)
   obtain ⟨u9,q9,e9,_⟩:=h9 W0
   simp only [] at e9
   go_big_quiet_op
   first|exact hK|(apply Exists.intro;refine ⟨fun _=>?_,?_⟩;(· fail);exact hK)
  iterate 2
   (try simp only [Act.put,List.setIfInBounds_toArray,List.set_cons_zero,List.set_cons_succ])
   refine relTold rfl rfl ?_ ?_
   ·intro F hF hf d
    have hFc:=hF.cell
    have hFf:=hF.frozen
    simp [yieldsR,yieldsUpon,go_sem]
    exact ⟨⟨(F d).heap.size,rfl,by show ((F d).heap.push _)[(F d).heap.size]?=_;simp,(hF.below d).size⟩,up_alloc _ _⟩
  (try simp only [Act.put,List.setIfInBounds_toArray,List.set_cons_zero,List.set_cons_succ])
  refine relEnd ?_
  exact rfl
 case pk=>
  intro x
  simp only [putsK,List.foldl_cons,List.foldl_nil,Act.put,List.setIfInBounds_toArray,List.set_cons_zero,List.set_cons_succ]
 case yt=>
  intro i0 hi o0 ho e he W x hx
  simp only [List.mem_cons,List.not_mem_nil,or_false] at hi
  rcases hi with rfl|rfl
  ·cases ho
   have he':(⟨15,43,OwnT W0.heap.size RB.1 RB.2⟩:Told)=e:=Option.some.inj he
   subst he'
   obtain ⟨u9,q9,e9,n9,o9⟩:=hx _ (List.mem_cons_of_mem _ List.mem_cons_self) (by rfl)
   simp only [] at e9
   refine ⟨q9,o9,.inl ⟨by rfl,fun w=>?_⟩⟩
   simp [execOp,Act.eval,e9,go_sem]
  ·cases he
 case yl=>
  intro i0 hi o0 ho hn x hx
  simp only [List.mem_cons,List.not_mem_nil,or_false] at hi
  rcases hi with rfl|rfl
  ·cases hn
  ·cases ho
   obtain ⟨W9,u9,q9,e9,_⟩:=hx _ (List.mem_cons_of_mem _ List.mem_cons_self) (by rfl)
   simp only [] at e9
   refine ⟨.int .i64 0,fun t ht=>?_,.inl ⟨by rfl,fun w=>?_⟩⟩
   ·cases ht
    rfl
   ·simp [execOp,Act.eval,e9,go_sem]
 intro z1 xs hBz1 hf hap
 simp only [List.drop_succ_cons,List.drop_zero]
 have hne:xs 17≠xs 18:=hap _ _ (List.mem_cons_of_mem _ (List.mem_cons_of_mem _ (List.mem_cons_of_mem _ (List.mem_cons_of_mem _ List.mem_cons_self)))) (List.mem_cons_of_mem _ (List.mem_cons_of_mem _ (List.mem_cons_of_mem _ (List.mem_cons_of_mem _ (List.mem_cons_of_mem _ List.mem_cons_self))))) (by simp) (by simp) (by simp)
 obtain ⟨pa,na,ca,pb,nb',cb,ev,o1,o2⟩:=hf _ (List.mem_cons_of_mem _ (List.mem_cons_of_mem _ List.mem_cons_self))
 obtain ⟨pc,nc,cc,pd,nd,cd,ew,o3,o4⟩:=hf _ (List.mem_cons_of_mem _ (List.mem_cons_of_mem _ (List.mem_cons_of_mem _ List.mem_cons_self)))
 obtain ⟨g7,eb,hb1,hb2⟩:=hf _ (List.mem_cons_of_mem _ (List.mem_cons_of_mem _ (List.mem_cons_of_mem _ (List.mem_cons_of_mem _ List.mem_cons_self))))
 obtain ⟨g8,eb8,hb3,hb4⟩:=hf _ (List.mem_cons_of_mem _ (List.mem_cons_of_mem _ (List.mem_cons_of_mem _ (List.mem_cons_of_mem _ (List.mem_cons_of_mem _ List.mem_cons_self)))))
 simp only [] at ev ew eb eb8
 rw [eb,eb8] at hne
 have h78:g7≠g8:=fun e=>hne (by rw [e])
 obtain ⟨x12,e12⟩:∃ q,xs 12=q:=⟨_,rfl⟩
 obtain ⟨x13,e13⟩:∃ q,xs 13=q:=⟨_,rfl⟩
 simp only [ev,ew,eb,eb8,e12,e13]
 have hS1:Below W0.heap.size W0 (set2 (set2 z1 g7 (.slice pa na ca) (.slice pb nb' cb)) g8 (.slice pc nc cc) (.slice pd nd cd)):=below_set2 (below_set2 hBz1 g7 hb2 _ _) g8 hb4 _ _
 have hn1:z1.heap[nb]?=some (.cells #[.int .i64 op,.int .i64 a,.int .i64 b,.int .i64 k,.slice ps ns_ cs,.slice pt nt ct] 58 (0,0)):=(hBz1.block _ (heap_lt HX.out)).trans HX.out
 have hnl:=heap_lt HX.out
 have hn7:nb≠g7:=by omega
 have hn8:nb≠g8:=by omega
 have f1:=o1.off_type hb1 (by decide)
 have f2:=o2.off_type hb1 (by decide)
 have f3:=o3.off_type hb1 (by decide)
 have f4:=o4.off_type hb1 (by decide)
 have f5:=o1.off_type hb3 (by decide)
 have f6:=o2.off_type hb3 (by decide)
 have f7:=o3.off_type hb3 (by decide)
 have f8:=o4.off_type hb3 (by decide)
 have t1:=Stay.set2 (g:=g7) z1 (.slice pa na ca) (.slice pb nb' cb)
 have t2:=Stay.set2 (g:=g8) (set2 z1 g7 (.slice pa na ca) (.slice pb nb' cb)) (.slice pc nc cc) (.slice pd nd cd)
 have y7:Cel (set2 (set2 z1 g7 (.slice pa na ca) (.slice pb nb' cb)) g8 (.slice pc nc cc) (.slice pd nd cd)) g7 (.slice pa na ca) (.slice pb nb' cb):=((new_cel hb1).set _ _).stay t2 h78
 have y8:Cel (set2 (set2 z1 g7 (.slice pa na ca) (.slice pb nb' cb)) g8 (.slice pc nc cc) (.slice pd nd cd)) g8 (.slice pc nc cc) (.slice pd nd cd):=((new_cel hb3).stay t1 (Ne.symm h78)).set _ _
 have HU:Hid ((Cel (set2 (set2 z1 g7 (.slice pa na ca) (.slice pb nb' cb)) g8 (.slice pc nc cc) (.slice pd nd cd)) g7 (.slice pa na ca) (.slice pb nb' cb)∧Cel (set2 (set2 z1 g7 (.slice pa na ca) (.slice pb nb' cb)) g8 (.slice pc nc cc) (.slice pd nd cd)) g8 (.slice pc nc cc) (.slice pd nd cd))∧(OwnK .i64 3 (set2 (set2 z1 g7 (.slice pa na ca) (.slice pb nb' cb)) g8 (.slice pc nc cc) (.slice pd nd cd)) W0.heap.size (.slice pa na ca) RA.1∧OwnK .i64 22 (set2 (set2 z1 g7 (.slice pa na ca) (.slice pb nb' cb)) g8 (.slice pc nc cc) (.slice pd nd cd)) W0.heap.size (.slice pb nb' cb) RA.2∧OwnK .i64 3 (set2 (set2 z1 g7 (.slice pa na ca) (.slice pb nb' cb)) g8 (.slice pc nc cc) (.slice pd nd cd)) W0.heap.size (.slice pc nc cc) RB.1∧OwnK .i64 22 (set2 (set2 z1 g7 (.slice pa na ca) (.slice pb nb' cb)) g8 (.slice pc nc cc) (.slice pd nd cd)) W0.heap.size (.slice pd nd cd) RB.2)∧Below W0.heap.size W0 (set2 (set2 z1 g7 (.slice pa na ca) (.slice pb nb' cb)) g8 (.slice pc nc cc) (.slice pd nd cd))∧W0.heap.size≤g8):=⟨⟨y7,y8⟩,⟨(o1.stay t1 f1).stay t2 f5,(o2.stay t1 f2).stay t2 f6,(o3.stay t1 f3).stay t2 f7,(o4.stay t1 f4).stay t2 f8⟩,hS1,hb4⟩
 obtain ⟨r0,r1,r2,r3⟩:=new_cel hb1
 obtain ⟨r4,r5,r6,r7⟩:=new_cel hb3
 have z7:=cell_lt r0
 have z8:=cell_lt r4
 have h87:g8≠g7:=Ne.symm h78
 clear f1 f2 f3 f4 f5 f6 f7 f8 o1 o2 o3 o4 t1 t2 y7 y8 hS1 hb1 hb2 hb3 hb4 hf hap hne ev ew eb eb8 e12 e13 hBz1 cGv b0 b1 c0 c1 k0 k1 k2 k3 k4 k5 kb kc
 obtain ⟨U,eU⟩:∃ U,(set2 (set2 z1 g7 (.slice pa na ca) (.slice pb nb' cb)) g8 (.slice pc nc cc) (.slice pd nd cd))=U:=⟨_,rfl⟩
 have HK:Hid (U.heap[nb]?=some (.cells #[.int .i64 op,.int .i64 a,.int .i64 b,.int .i64 k,.slice ps ns_ cs,.slice pt nt ct] 58 (0,0))):=by
  show _=_
  rw [← eU,HU.out.2.2.1.block _ (heap_lt HX.out)]
  exact HX.out
 obtain ⟨⟨k0,k1,k2,k3,k4,k5⟩,_⟩:=box6 HK.out
 have kn:=heap_lt HK.out
 rw [eU] at HU
 obtain ⟨q0,q1,_,_⟩:=HU.out.1.1
 have kq:=cell_lt q0
 clear hn1
 go_wp2_with fail
 clear eU k0 k1 k2 k3 k4 k5 kn q0 q1 kq r0 r1 r2 r3 r4 r5 r6 r7 z7 z8
 have HBU:Hid (Below w.heap.size w U):=bstep HB0.out HU.out.2.2.1
 have hBU:B≤U.heap.size:=Nat.le_trans HS.out.2 HBU.out.size
 refine (cA1.out U _ _ _ _ _ _ (HS.out.1.up HBU.out) hBU HU.out.2.1.1.nums HU.out.2.1.2.1.nums).mono ?_
 rintro e w3 ⟨rfl,hS3,hB3,hW3⟩
 obtain ⟨xsU,hxU,_⟩:=(HS.out.1.up HBU.out).hg
 have hvU:=(HS.out.1.up HBU.out).hv
 have oU:=hW3.only hxU hvU
 have hg8:g8 < U.heap.size:=cell_lt HU.out.1.2.1
 have hgb:gb < W0.heap.size:=by
  obtain ⟨xs0,hx0,_⟩:=(HS.out.1.up HB0.out).hg
  exact heap_lt hx0
 have hvb:vb < W0.heap.size:=heap_lt (HS.out.1.up HB0.out).hv
 have h8l:=HU.out.2.2.2
 have e8:w3.heap[g8]?=U.heap[g8]?:=hW3.2 g8 hg8 (by omega) (by omega)
 have b8:Below (U.heap.size) U U:=Below.refl _ _
 have HS3:Hid ((SwC w3 B sb tb gb vb N s1.1 s1.2∧B≤w3.heap.size)∧(Nums .i64 w3 (.slice pc nc cc) RB.1∧Nums .i64 w3 (.slice pd nd cd) RB.2)∧Below B w w3):=⟨⟨hS3,Nat.le_trans hBU hW3.1⟩,⟨(HU.out.2.1.2.2.1.only oU (by decide)).nums,(HU.out.2.1.2.2.2.only oU (by decide)).nums⟩,(HBU.out.mono HS.out.2).trans hB3⟩
 obtain ⟨⟨k0,k1,k2,k3,k4,k5⟩,_⟩:=box6 (oU.keep HK.out (by decide))
 have kn:=heap_lt (oU.keep HK.out (by decide))
 have same8:∀ o v,U.cell? ⟨g8,o,none⟩=some v→w3.cell? ⟨g8,o,none⟩=some v:=fun o v h=>by
  unfold World.cell? at h ⊢
  rw [show w3.heap[(⟨g8,o,none⟩:Addr).block]?=U.heap[(⟨g8,o,none⟩:Addr).block]? from e8]
  exact h
 have r4:=same8 0 _ HU.out.1.2.1
 have r5:=same8 1 _ HU.out.1.2.2.1
 have z8:=cell_lt r4
 clear same8 e8 b8 hvb hgb hg8 oU hvU hxU hS3 hB3 hW3 cA1 HU HBU h8l
 go_wp2_with fail
 refine (cA2.out w3 _ _ _ _ _ _ HS3.out.1.1 HS3.out.1.2 HS3.out.2.1.1 HS3.out.2.1.2).mono ?_
 rintro e w4 ⟨rfl,hS4,hB4,_⟩
 have HF:Hid (SwC w4 B sb tb gb vb N s2.1 s2.2∧Below B w w4):=⟨hS4,HS3.out.2.2.trans hB4⟩
 clear hS4 hB4 HS3 k0 k1 k2 k3 k4 k5 kn r4 r5 z8 cA2
 go_wp2
 exact bodyPost_ret (v:=.int .i64 0) (by simp [results,Tryz.results27,go_sem]) rfl ⟨rfl,HF.out⟩
end Go.Proofs.YtaiigfhicaelkabGreatDoor.Wd
