/- TapeOps: what a tape reckons is what the layers below reckon. · A struct of two slices of integers that came in by value (a tensor): what a walk is told of it. Nothing of the program is named here. -/
import Derived.Test.YtlhpmjcdkpfjdaaGreatDoorZ17
import Derived.Test.YtlhpmjcdkpfjdaaGreatDoorZ00
import Derived.Lib.SmallJoins
namespace Go.Proofs.YtlhpmjcdkpfjdaaGreatDoor.Wd
open Go.RowKit Fx
set_option linter.unusedVariables false
set_option linter.unusedSimpArgs false
def Bx2 (W:World) (b:Nat) (s t s' t':Value):Prop:=W.heap[b]?=some (.cells #[s,t] 31 (0,0))∧W.heap[b+1]?=some (.cells #[s',t'] 31 (0,0))
theorem Bx2.only {S:List TypeId} {W W':World} {b:Nat} {s t s' t':Value} (h:Bx2 W b s t s' t') (ho:Only S W W') (hn:31∉S):Bx2 W' b s t s' t':=⟨ho.keep h.1 hn,ho.keep h.2 hn⟩
def Want4 (W:World) (b c:Nat) (s0 t0 s1 t1 s2 t2 s3 t3:Value) (D0 X0 D1 X1 D2 X2 D3 X3:List Int) (E0 E1 E2 E3:Int):Prop:=(W.heap[b]?=some (.cells #[s0,t0,s1,t1,s2,t2,s3,t3] 55 (0,0))∧W.heap[c]?=some (.cells #[.int .i64 E0,.int .i64 E1,.int .i64 E2,.int .i64 E3] 56 (0,0)))∧OwnK .i64 3 W 0 s0 D0∧OwnK .i64 33 W 0 t0 X0∧OwnK .i64 3 W 0 s1 D1∧OwnK .i64 33 W 0 t1 X1∧OwnK .i64 3 W 0 s2 D2∧OwnK .i64 33 W 0 t2 X2∧OwnK .i64 3 W 0 s3 D3∧OwnK .i64 33 W 0 t3 X3
theorem Want4.only {S:List TypeId} {W W':World} {b c:Nat} {s0 t0 s1 t1 s2 t2 s3 t3:Value} {D0 X0 D1 X1 D2 X2 D3 X3:List Int} {E0 E1 E2 E3:Int} (h:Want4 W b c s0 t0 s1 t1 s2 t2 s3 t3 D0 X0 D1 X1 D2 X2 D3 X3 E0 E1 E2 E3) (ho:Only S W W') (h1:55∉S) (h2:56∉S) (h3:3∉S) (h4:33∉S):Want4 W' b c s0 t0 s1 t1 s2 t2 s3 t3 D0 X0 D1 X1 D2 X2 D3 X3 E0 E1 E2 E3:=by
 obtain ⟨⟨a,e⟩,o0,o1,o2,o3,o4,o5,o6,o7⟩:=h
 exact ⟨⟨ho.keep a h1,ho.keep e h2⟩,o0.only ho h3,o1.only ho h4,o2.only ho h3,o3.only ho h4,o4.only ho h3,o5.only ho h4,o6.only ho h3,o7.only ho h4⟩
theorem cells_at {W:World} {b:Nat} {cs:Array Value} {e:TypeId} (h:W.heap[b]?=some (.cells cs e (0,0))) (j:Nat) (v:Value) (hv:cs[j]?=some v):W.cell? ⟨b,j,none⟩=some v:=by
 unfold World.cell?
 simp only [h]
 exact hv
theorem cells_fr {W:World} {b:Nat} {cs:Array Value} {e:TypeId} (h:W.heap[b]?=some (.cells cs e (0,0))) (j:Nat):W.frozen? ⟨b,j,none⟩=false:=by
 unfold World.frozen?
 simp [h]
theorem few_g {D X:List Int} (h:TnsG D X):Few D∧Few X:=by
 have h1:=h.1.1.1
 have h2:=h.1.len.2
 rw [ntl_len] at h1
 unfold Few
 omega
theorem ix4_0 (a b c d:Int) (W:World):Sem.run Tryz.prog (Instr.index 61 (.agg #[.int .i64 a,.int .i64 b,.int .i64 c,.int .i64 d]) (.int .i64 0)) W = .ok (.int .i64 a) W:=by
 simp [Instr.index,go_sem]
theorem ix4_1 (a b c d:Int) (W:World):Sem.run Tryz.prog (Instr.index 61 (.agg #[.int .i64 a,.int .i64 b,.int .i64 c,.int .i64 d]) (.int .i64 1)) W = .ok (.int .i64 b) W:=by
 simp [Instr.index,go_sem]
theorem ix4_2 (a b c d:Int) (W:World):Sem.run Tryz.prog (Instr.index 61 (.agg #[.int .i64 a,.int .i64 b,.int .i64 c,.int .i64 d]) (.int .i64 2)) W = .ok (.int .i64 c) W:=by
 simp [Instr.index,go_sem]
theorem ix4_3 (a b c d:Int) (W:World):Sem.run Tryz.prog (Instr.index 61 (.agg #[.int .i64 a,.int .i64 b,.int .i64 c,.int .i64 d]) (.int .i64 3)) W = .ok (.int .i64 d) W:=by
 simp [Instr.index,go_sem]
attribute [local go_sem] ix4_0 ix4_1 ix4_2 ix4_3
theorem op2 {ns:List Nd} {d x d' y:List Int} {k:Int} (h0:ns[0]?=some ⟨1,-1,-1,0,d,x⟩) (h1:ns[1]?=some ⟨1,-1,-1,0,d',y⟩) (hl:ns.length < 512):
  doE ns 2 0 1 k=eachE d x d' y∧(eachE d x d' y=0→doR ns 2 0 1 k=(ns.length:Int)∧doN ns 2 0 1 k=ns++[⟨2,0,1,0,eachD d x d' y,eachV (fun a b=>Fx.hold (a+b)) d x d' y⟩])∧(eachE d x d' y≠0→doN ns 2 0 1 k=ns):=by
 have l1:1 < ns.length:=(List.getElem?_eq_some_iff.1 h1).1
 have hok:okD ns 2 0 1:=⟨⟨by decide,by decide⟩,⟨by decide,by omega⟩,fun _=>⟨by decide,by omega⟩⟩
 have n0:ndN ns 0=⟨1,-1,-1,0,d,x⟩:=nd_at h0
 have n1:ndN ns 1=⟨1,-1,-1,0,d',y⟩:=nd_at h1
 have e1:dE ns 2 0 1 k=eachE d x d' y:=by
  show rkE 2 (ndN ns 0).D (ndN ns 0).X (ndN ns 1).D (ndN ns 1).X _=_
  rw [n0,n1]
  rfl
 have e2:dN ns 2 0 1 k=⟨2,0,1,0,eachD d x d' y,eachV (fun a b=>Fx.hold (a+b)) d x d' y⟩:=by
  show (⟨2,0,1,0,rkD 2 (ndN ns 0).D (ndN ns 0).X (ndN ns 1).D (ndN ns 1).X 0,rkV 2 (ndN ns 0).D (ndN ns 0).X (ndN ns 1).D (ndN ns 1).X 0⟩:Nd)=_
  rw [n0,n1]
  rfl
 refine ⟨(if_neg (by omega)).trans ((if_pos hok).trans e1),fun h=>?_,fun h=>if_neg fun hp=>h (by rw [← e1];exact hp.2)⟩
 have hp:doP ns 2 0 1 k:=⟨⟨hl,hok⟩,e1.trans h⟩
 exact ⟨if_pos hp,(if_pos hp).trans (by rw [e2])⟩
theorem op5 {ns:List Nd} {d x d' y:List Int} {k:Int} (h0:ns[0]?=some ⟨1,-1,-1,0,d,x⟩) (h1:ns[1]?=some ⟨1,-1,-1,0,d',y⟩) (hl:ns.length < 512):
  doE ns 5 0 1 k=scaleE d x∧(scaleE d x=0→doR ns 5 0 1 k=(ns.length:Int)∧doN ns 5 0 1 k=ns++[⟨5,0,-1,k,scaleD d x,scaleV d x k⟩])∧(scaleE d x≠0→doN ns 5 0 1 k=ns):=by
 have l1:1 < ns.length:=(List.getElem?_eq_some_iff.1 h1).1
 have hok:okD ns 5 0 1:=⟨⟨by decide,by decide⟩,⟨by decide,by omega⟩,fun _=>⟨by decide,by omega⟩⟩
 have n0:ndN ns 0=⟨1,-1,-1,0,d,x⟩:=nd_at h0
 have n1:ndN ns 1=⟨1,-1,-1,0,d',y⟩:=nd_at h1
 have e1:dE ns 5 0 1 k=scaleE d x:=by
  show rkE 5 (ndN ns 0).D (ndN ns 0).X [] [] _=_
  rw [n0]
  rfl
 have e2:dN ns 5 0 1 k=⟨5,0,-1,k,scaleD d x,scaleV d x k⟩:=by
  show (⟨5,0,-1,k,rkD 5 (ndN ns 0).D (ndN ns 0).X [] [] k,rkV 5 (ndN ns 0).D (ndN ns 0).X [] [] k⟩:Nd)=_
  rw [n0]
  rfl
 refine ⟨(if_neg (by omega)).trans ((if_pos hok).trans e1),fun h=>?_,fun h=>if_neg fun hp=>h (by rw [← e1];exact hp.2)⟩
 have hp:doP ns 5 0 1 k:=⟨⟨hl,hok⟩,e1.trans h⟩
 exact ⟨if_pos hp,(if_pos hp).trans (by rw [e2])⟩
theorem op6 {ns:List Nd} {d x d' y:List Int} {k:Int} (h0:ns[0]?=some ⟨1,-1,-1,0,d,x⟩) (h1:ns[1]?=some ⟨1,-1,-1,0,d',y⟩) (hl:ns.length < 512):
  doE ns 6 0 1 k=mE d x d' y∧(mE d x d' y=0→doR ns 6 0 1 k=(ns.length:Int)∧doN ns 6 0 1 k=ns++[⟨6,0,1,0,mD d x d' y,mV d x d' y⟩])∧(mE d x d' y≠0→doN ns 6 0 1 k=ns):=by
 have l1:1 < ns.length:=(List.getElem?_eq_some_iff.1 h1).1
 have hok:okD ns 6 0 1:=⟨⟨by decide,by decide⟩,⟨by decide,by omega⟩,fun _=>⟨by decide,by omega⟩⟩
 have n0:ndN ns 0=⟨1,-1,-1,0,d,x⟩:=nd_at h0
 have n1:ndN ns 1=⟨1,-1,-1,0,d',y⟩:=nd_at h1
 have e1:dE ns 6 0 1 k=mE d x d' y:=by
  show rkE 6 (ndN ns 0).D (ndN ns 0).X (ndN ns 1).D (ndN ns 1).X _=_
  rw [n0,n1]
  rfl
 have e2:dN ns 6 0 1 k=⟨6,0,1,0,mD d x d' y,mV d x d' y⟩:=by
  show (⟨6,0,1,0,rkD 6 (ndN ns 0).D (ndN ns 0).X (ndN ns 1).D (ndN ns 1).X 0,rkV 6 (ndN ns 0).D (ndN ns 0).X (ndN ns 1).D (ndN ns 1).X 0⟩:Nd)=_
  rw [n0,n1]
  rfl
 refine ⟨(if_neg (by omega)).trans ((if_pos hok).trans e1),fun h=>?_,fun h=>if_neg fun hp=>h (by rw [← e1];exact hp.2)⟩
 have hp:doP ns 6 0 1 k:=⟨⟨hl,hok⟩,e1.trans h⟩
 exact ⟨if_pos hp,(if_pos hp).trans (by rw [e2])⟩
theorem op7 {ns:List Nd} {d x d' y:List Int} {k:Int} (h0:ns[0]?=some ⟨1,-1,-1,0,d,x⟩) (h1:ns[1]?=some ⟨1,-1,-1,0,d',y⟩) (hl:ns.length < 512):
  doE ns 7 1 1 k=flE d' y∧(flE d' y=0→doR ns 7 1 1 k=(ns.length:Int)∧doN ns 7 1 1 k=ns++[⟨7,1,-1,0,flD d' y,flV d' y⟩])∧(flE d' y≠0→doN ns 7 1 1 k=ns):=by
 have l1:1 < ns.length:=(List.getElem?_eq_some_iff.1 h1).1
 have hok:okD ns 7 1 1:=⟨⟨by decide,by decide⟩,⟨by decide,by omega⟩,fun _=>⟨by decide,by omega⟩⟩
 have n0:ndN ns 0=⟨1,-1,-1,0,d,x⟩:=nd_at h0
 have n1:ndN ns 1=⟨1,-1,-1,0,d',y⟩:=nd_at h1
 have e1:dE ns 7 1 1 k=flE d' y:=by
  show rkE 7 (ndN ns 1).D (ndN ns 1).X [] [] _=_
  rw [n1]
  rfl
 have e2:dN ns 7 1 1 k=⟨7,1,-1,0,flD d' y,flV d' y⟩:=by
  show (⟨7,1,-1,0,rkD 7 (ndN ns 1).D (ndN ns 1).X [] [] 0,rkV 7 (ndN ns 1).D (ndN ns 1).X [] [] 0⟩:Nd)=_
  rw [n1]
  rfl
 refine ⟨(if_neg (by omega)).trans ((if_pos hok).trans e1),fun h=>?_,fun h=>if_neg fun hp=>h (by rw [← e1];exact hp.2)⟩
 have hp:doP ns 7 1 1 k:=⟨⟨hl,hok⟩,e1.trans h⟩
 exact ⟨if_pos hp,(if_pos hp).trans (by rw [e2])⟩
set_option maxRecDepth 16000 in
set_option maxHeartbeats 16000000 in
theorem tpops_walk (w:World) (hT:Hid (Tz w)) (za:Nat→Int) (n c:Nat) (p:Option Addr) (zb:Nat→Int) (n2 c2:Nat) (p2:Option Addr) (zc:Nat→Int) (n3 c3:Nat) (p3:Option Addr) (zd:Nat→Int) (n4 c4:Nat) (p4:Option Addr) (k:Int)
  (r1:RowN .i64 w p n c za) (r2:RowN .i64 w p2 n2 c2 zb) (r3:RowN .i64 w p3 n3 c3 zc) (r4:RowN .i64 w p4 n4 c4 zd) (hk:-9223372036854775808≤k∧k≤9223372036854775807):
  Calls Tryz.prog 7 #[.agg #[.slice p n c,.slice p2 n2 c2],.agg #[.slice p3 n3 c3,.slice p4 n4 c4],.int .i64 k] w fun e w'=>e = .returned (.bool true)∧Below w.heap.size w w':=by
 have HA:Hid (Nums .i64 w (.slice p n c) (nlst n za)∧Nums .i64 w (.slice p2 n2 c2) (nlst n2 zb)∧Nums .i64 w (.slice p3 n3 c3) (nlst n3 zc)∧Nums .i64 w (.slice p4 n4 c4) (nlst n4 zd)):=⟨r1.nums,r2.nums,r3.nums,r4.nums⟩
 have HI:Hid (RI (nlst n za)∧RI (nlst n2 zb)∧RI (nlst n3 zc)∧RI (nlst n4 zd)):=⟨r1.riI,r2.riI,r3.riI,r4.riI⟩
 have HC:Hid (n2≤c2∧n4≤c4):=⟨r2.1.1,r4.1.1⟩
 have HN:Hid ((nlst n za).length=n∧(nlst n2 zb).length=n2∧(nlst n3 zc).length=n3∧(nlst n4 zd).length=n4):=⟨nlst_len _ _,nlst_len _ _,nlst_len _ _,nlst_len _ _⟩
 have f1:(n:Int)≤9223372036854775807:=by have:=r1.few;unfold Few at this;rw [nlst_len] at this;omega
 have f2:(n2:Int)≤9223372036854775807:=by have:=r2.few;unfold Few at this;rw [nlst_len] at this;omega
 have f3:(n3:Int)≤9223372036854775807:=by have:=r3.few;unfold Few at this;rw [nlst_len] at this;omega
 have f4:(n4:Int)≤9223372036854775807:=by have:=r4.few;unfold Few at this;rw [nlst_len] at this;omega
 obtain ⟨d,ed⟩:∃ d,nlst n za=d:=⟨_,rfl⟩
 obtain ⟨x,ex⟩:∃ x,nlst n2 zb=x:=⟨_,rfl⟩
 obtain ⟨d',ed'⟩:∃ d,nlst n3 zc=d:=⟨_,rfl⟩
 obtain ⟨y,ey⟩:∃ y,nlst n4 zd=y:=⟨_,rfl⟩
 rw [ed,ex,ed',ey] at HA HI HN
 have HK:Hid (InR k):=hk
 clear ed ex ed' ey r1 r2 r3 r4 hk
 haveI:Nonempty World:=⟨w⟩
 go_enter Tryz.func7,Tryz.ntmps7
 go_wp2_with fail
 generalize hW0:World.alloc _ _=W0
 have HB0:Hid (Below w.heap.size w W0):=by show Below _ _ _;rw [← hW0];go_grown
 have HX0:Bx2 W0 w.heap.size (.slice p n c) (.slice p2 n2 c2) (.slice p3 n3 c3) (.slice p4 n4 c4):=by
  rw [← hW0]
  refine ⟨(heap_alloc_old _ _ (by rw [size_alloc];omega)).trans (heap_alloc_new _ _),?_⟩
  rw [← size_alloc w (.cells #[.slice p n c,.slice p2 n2 c2] 31)]
  exact heap_alloc_new _ _
 clear hW0
 refine (awake10_any W0 (Hid.up_tz hT HB0.out)).mono ?_
 rintro e wa ⟨rfl,hBa⟩
 have HBa:Hid (Below w.heap.size w wa):=bstep HB0.out hBa
 have HXa:Hid (Bx2 wa w.heap.size (.slice p n c) (.slice p2 n2 c2) (.slice p3 n3 c3) (.slice p4 n4 c4)):=HX0.only (S:=[]) (Only.of hBa) (by simp)
 clear hBa HX0 HB0 W0
 obtain ⟨a0,a1,_,_⟩:=new_cel HXa.out.1
 obtain ⟨b0,b1,_,_⟩:=new_cel HXa.out.2
 have z0:=cell_lt a0
 have z1:=cell_lt b0
 by_cases h_n:10 < n
 ·have d_n:decide ((10:Int) < (n:Int))=true:=decide_eq_true (by omega)
  have g_n:decide (10 < n)=true:=decide_eq_true h_n
  go_wp2
  go_ret
  exact ⟨rfl,HBa.out⟩
 have d_n:decide ((10:Int) < (n:Int))=false:=decide_eq_false (by omega)
 have g_n:decide (10 < n)=false:=decide_eq_false h_n
 by_cases h_n2:60 < n2
 ·have d_n2:decide ((60:Int) < (n2:Int))=true:=decide_eq_true (by omega)
  have g_n2:decide (60 < n2)=true:=decide_eq_true h_n2
  go_wp2
  go_ret
  exact ⟨rfl,HBa.out⟩
 have d_n2:decide ((60:Int) < (n2:Int))=false:=decide_eq_false (by omega)
 have g_n2:decide (60 < n2)=false:=decide_eq_false h_n2
 by_cases h_n3:10 < n3
 ·have d_n3:decide ((10:Int) < (n3:Int))=true:=decide_eq_true (by omega)
  have g_n3:decide (10 < n3)=true:=decide_eq_true h_n3
  go_wp2
  go_ret
  exact ⟨rfl,HBa.out⟩
 have d_n3:decide ((10:Int) < (n3:Int))=false:=decide_eq_false (by omega)
 have g_n3:decide (10 < n3)=false:=decide_eq_false h_n3
 by_cases h_n4:60 < n4
 ·have d_n4:decide ((60:Int) < (n4:Int))=true:=decide_eq_true (by omega)
  have g_n4:decide (60 < n4)=true:=decide_eq_true h_n4
  go_wp2
  go_ret
  exact ⟨rfl,HBa.out⟩
 have d_n4:decide ((60:Int) < (n4:Int))=false:=decide_eq_false (by omega)
 have g_n4:decide (60 < n4)=false:=decide_eq_false h_n4
 have HL:Hid (n≤10∧n2≤60∧n3≤10∧n4≤60):=by show _∧_;omega
 clear h_n h_n2 h_n3 h_n4 f1 f2 f3 f4
 go_wp2_with fail
 refine (cnew_any wa).mono ?_
 rintro e w1 ⟨tb,rfl,hT1,hB1⟩
 have HT1:Hid (TapC w1 wa.heap.size tb []∧Below wa.heap.size wa w1):=⟨hT1,hB1⟩
 have HX1:Hid (Bx2 w1 w.heap.size (.slice p n c) (.slice p2 n2 c2) (.slice p3 n3 c3) (.slice p4 n4 c4)):=HXa.out.only (S:=[]) (Only.of hB1) (by simp)
 clear hT1 hB1 a0 a1 b0 b1 z0 z1 HXa
 obtain ⟨a0,a1,_,_⟩:=new_cel HX1.out.1
 have z0:=cell_lt a0
 go_wp2_with fail
 have cc:=cleaf_any wa.heap.size tb [] NodesG.nil p p2 n c n2 c2 d x HI.out.1 HI.out.2.1 w1 HT1.out.1 (HA.out.1.up (bstep HBa.out HT1.out.2)) (HA.out.2.1.up (bstep HBa.out HT1.out.2))
 clear a0 a1 z0
 by_cases hp:isP d x
 case neg=>
  rw [show leafE [] d x=1 from (if_neg (by decide)).trans (if_neg hp),show leafR [] d x=0 from if_neg fun h=>hp h.2,show leafN [] d x = [] from if_neg fun h=>hp h.2] at cc
  refine cc.mono ?_
  rintro e w2 ⟨rfl,hT2,hC2,hO2⟩
  have HX2:=HX1.out.only hO2 (by decide)
  obtain ⟨b0,b1,_,_⟩:=new_cel HX2.2
  have z1:=cell_lt b0
  have HB2:Hid (Below wa.heap.size wa w2):=HT1.out.2.trans hC2
  clear cc hC2 hO2 HX2
  go_wp2_with fail
  have cc:=cleaf_any wa.heap.size tb [] NodesG.nil p3 p4 n3 c3 n4 c4 d' y HI.out.2.2.1 HI.out.2.2.2 w2 hT2 (HA.out.2.2.1.up (bstep HBa.out HB2.out)) (HA.out.2.2.2.up (bstep HBa.out HB2.out))
  obtain ⟨rr,er⟩:∃ z,leafR [] d' y=z:=⟨_,rfl⟩
  obtain ⟨ee,ee'⟩:∃ z,leafE [] d' y=z:=⟨_,rfl⟩
  rw [er,ee'] at cc
  refine cc.mono ?_
  rintro e w3 ⟨rfl,_,hC3,_⟩
  have HB3:Hid (Below w.heap.size w w3):=bstep HBa.out (HB2.out.trans hC3)
  clear cc hC3 er ee' hT2 b0 b1 z1
  go_wp2
  go_ret
  exact ⟨rfl,HB3.out⟩
 rw [show leafE [] d x=0 from (if_neg (by decide)).trans (if_pos hp),show leafR [] d x=0 from if_pos ⟨by decide,hp⟩,show leafN [] d x = [⟨1,-1,-1,0,d,x⟩] from if_pos ⟨by decide,hp⟩] at cc
 refine cc.mono ?_
 rintro e w2 ⟨rfl,hT2,hC2,hO2⟩
 have HX2:Hid (Bx2 w2 w.heap.size (.slice p n c) (.slice p2 n2 c2) (.slice p3 n3 c3) (.slice p4 n4 c4)):=HX1.out.only hO2 (by decide)
 have HT2:Hid (TapC w2 wa.heap.size tb [⟨1,-1,-1,0,d,x⟩]∧Below wa.heap.size wa w2):=⟨hT2,HT1.out.2.trans hC2⟩
 have HGa:Hid (NodesG [⟨1,-1,-1,0,d,x⟩]):=by
  have h1:=NodesG.leaf (d:=d) (x:=x) NodesG.nil HI.out.2.1
  rwa [show leafN [] d x = [⟨1,-1,-1,0,d,x⟩] from if_pos ⟨by decide,hp⟩] at h1
 clear cc hT2 hC2 hO2 HX1 HT1
 obtain ⟨b0,b1,_,_⟩:=new_cel HX2.out.2
 have z1:=cell_lt b0
 go_wp2_with fail
 have cc:=cleaf_any wa.heap.size tb [⟨1,-1,-1,0,d,x⟩] HGa.out p3 p4 n3 c3 n4 c4 d' y HI.out.2.2.1 HI.out.2.2.2 w2 HT2.out.1 (HA.out.2.2.1.up (bstep HBa.out HT2.out.2)) (HA.out.2.2.2.up (bstep HBa.out HT2.out.2))
 clear b0 b1 z1
 by_cases hq:isP d' y
 case neg=>
  rw [show leafE [⟨1,-1,-1,0,d,x⟩] d' y=1 from (if_neg (by simp)).trans (if_neg hq),show leafR [⟨1,-1,-1,0,d,x⟩] d' y=0 from if_neg fun h=>hq h.2] at cc
  refine cc.mono ?_
  rintro e w3 ⟨rfl,_,hC3,_⟩
  have HB3:Hid (Below w.heap.size w w3):=bstep HBa.out (HT2.out.2.trans hC3)
  clear cc hC3 HT2 HX2
  go_wp2
  go_ret
  exact ⟨rfl,HB3.out⟩
 rw [show leafE [⟨1,-1,-1,0,d,x⟩] d' y=0 from (if_neg (by simp)).trans (if_pos hq),show leafR [⟨1,-1,-1,0,d,x⟩] d' y=1 from if_pos ⟨by simp,hq⟩,show leafN [⟨1,-1,-1,0,d,x⟩] d' y = [⟨1,-1,-1,0,d,x⟩,⟨1,-1,-1,0,d',y⟩] from if_pos ⟨by simp,hq⟩] at cc
 refine cc.mono ?_
 rintro e w3 ⟨rfl,hT3,hC3,hO3⟩
 have HX3:Hid (Bx2 w3 w.heap.size (.slice p n c) (.slice p2 n2 c2) (.slice p3 n3 c3) (.slice p4 n4 c4)):=HX2.out.only hO3 (by decide)
 have HT3:Hid (TapC w3 wa.heap.size tb [⟨1,-1,-1,0,d,x⟩,⟨1,-1,-1,0,d',y⟩]∧Below w.heap.size w w3):=⟨hT3,bstep HBa.out (HT2.out.2.trans hC3)⟩
 have HGb:Hid (NodesG [⟨1,-1,-1,0,d,x⟩,⟨1,-1,-1,0,d',y⟩]):=by
  have h1:=NodesG.leaf (d:=d') (x:=y) HGa.out HI.out.2.2.2
  rwa [show leafN [⟨1,-1,-1,0,d,x⟩] d' y = [⟨1,-1,-1,0,d,x⟩,⟨1,-1,-1,0,d',y⟩] from if_pos ⟨by simp,hq⟩] at h1
 have HBB:Hid (wa.heap.size≤tb):=hT3.1
 clear cc hT3 hC3 hO3 HX2 HT2 HGa
 obtain ⟨a0,a1,_,_⟩:=new_cel HX3.out.1
 obtain ⟨b0,b1,_,_⟩:=new_cel HX3.out.2
 have z0:=cell_lt a0
 have z1:=cell_lt b0
 go_wp2_with fail
 generalize hK:World.alloc _ _=K0
 obtain ⟨g,hg⟩:∃ z,w3.heap.size=z:=⟨_,rfl⟩
 have hL:Below w3.heap.size w3 K0:=by rw [← hK];go_grown
 have HG0:Hid (K0.heap[g]?=some (.cells #[.slice none 0 0,.slice none 0 0,.slice none 0 0,.slice none 0 0,.slice none 0 0,.slice none 0 0,.slice none 0 0,.slice none 0 0] 55 (0,0))∧K0.heap[g+1]?=some (.cells #[.int .i64 0,.int .i64 0,.int .i64 0,.int .i64 0] 56 (0,0))):=by
  rw [← hK,← hg]
  refine ⟨(heap_alloc_old _ _ (by rw [size_alloc];omega)).trans (heap_alloc_new _ _),?_⟩
  rw [← size_alloc w3 (.cells #[.slice none 0 0,.slice none 0 0,.slice none 0 0,.slice none 0 0,.slice none 0 0,.slice none 0 0,.slice none 0 0,.slice none 0 0] 55)]
  exact heap_alloc_new _ _
 have HX4:Hid (Bx2 K0 w.heap.size (.slice p n c) (.slice p2 n2 c2) (.slice p3 n3 c3) (.slice p4 n4 c4)):=HX3.out.only (S:=[]) (Only.of hL) (by simp)
 have HT4:Hid (TapC K0 wa.heap.size tb [⟨1,-1,-1,0,d,x⟩,⟨1,-1,-1,0,d',y⟩]∧Below w.heap.size w K0):=⟨HT3.out.1.up hL,bstep HT3.out.2 hL⟩
 have HLt:Hid (w.heap.size+1 < g∧w.heap.size≤g):=by have h9:=heap_lt HX3.out.2;show _∧_;omega
 rw [hg]
 clear hK hL HX3 HT3 a0 a1 b0 b1 z0 z1 hg
 obtain ⟨E0,eE0⟩:∃ z,eachE d x d' y=z:=⟨_,rfl⟩
 obtain ⟨D0,eD0⟩:∃ z,eachD d x d' y=z:=⟨_,rfl⟩
 obtain ⟨X0,eX0⟩:∃ z,eachV (fun a b=>Fx.hold (a+b)) d x d' y=z:=⟨_,rfl⟩
 have HE0:Hid (eachE d x d' y=E0∧eachD d x d' y=D0∧eachV (fun a b=>Fx.hold (a+b)) d x d' y=X0):=⟨eE0,eD0,eX0⟩
 have cc:=tadd_any p p2 p3 p4 n c n2 c2 n3 c3 n4 c4 d x d' y HI.out.1 HI.out.2.1 HI.out.2.2.1 HI.out.2.2.2 K0 (HA.out.1.up HT4.out.2) (HA.out.2.1.up HT4.out.2) (HA.out.2.2.1.up HT4.out.2) (HA.out.2.2.2.up HT4.out.2)
 rw [eE0,eD0,eX0] at cc
 clear eE0 eD0 eX0
 refine cc.mono ?_
 rintro e v0 ⟨u0,rfl,⟨s0,t0,rfl,hs,ht⟩,hB⟩
 obtain ⟨ps0,ns0,cs0,rfl⟩:=hs.form_
 obtain ⟨pt0,nt0,ct0,rfl⟩:=ht.form_
 have HS:v0.heap[g]?=some (.cells #[.slice none 0 0,.slice none 0 0,.slice none 0 0,.slice none 0 0,.slice none 0 0,.slice none 0 0,.slice none 0 0,.slice none 0 0] 55 (0,0))∧v0.heap[g+1]?=some (.cells #[.int .i64 0,.int .i64 0,.int .i64 0,.int .i64 0] 56 (0,0)):=⟨(hB.block _ (heap_lt HG0.out.1)).trans HG0.out.1,(hB.block _ (heap_lt HG0.out.2)).trans HG0.out.2⟩
 have hOv0:OwnK .i64 3 v0 0 (.slice ps0 ns0 cs0) D0∧OwnK .i64 33 v0 0 (.slice pt0 nt0 ct0) X0:=⟨hs.low (Nat.zero_le _),ht.low (Nat.zero_le _)⟩
 have hTv:TapC v0 wa.heap.size tb [⟨1,-1,-1,0,d,x⟩,⟨1,-1,-1,0,d',y⟩]:=HT4.out.1.up hB
 have hBv:Below w.heap.size w v0:=bstep HT4.out.2 hB
 have hXv:Bx2 v0 w.heap.size (.slice p n c) (.slice p2 n2 c2) (.slice p3 n3 c3) (.slice p4 n4 c4):=HX4.out.only (S:=[]) (Only.of hB) (by simp)
 obtain ⟨a0,a1,_,_⟩:=new_cel hXv.1
 obtain ⟨b0,b1,_,_⟩:=new_cel hXv.2
 have z0:=heap_lt HS.1
 have z1:=heap_lt HS.2
 have q0:=cells_at HS.1 0 _ rfl
 have q1:=cells_at HS.1 1 _ rfl
 have q2:=cells_at HS.2 0 _ rfl
 have q3:=cells_fr HS.1
 have q4:=cells_fr HS.2
 have q5:w.heap.size≠g∧w.heap.size≠g+1:=by have:=HLt.out;omega
 have q6:w.heap.size+1≠g∧w.heap.size≠g:=by have:=HLt.out;omega
 have q7:=HLt.out.1
 clear cc hs ht hB HG0 HT4 HX4
 go_wp2_with fail
 generalize hK:World.setCell _ _ _=K1
 have o_:Only [55,56] v0 K1:=by
  rw [← hK]
  have h1:=heap_setat (o:=0) (x:=.slice ps0 ns0 cs0) HS.1
  have h2:=heap_setat (o:=1) (x:=.slice pt0 nt0 ct0) h1
  have h3:((v0.setCell ⟨g,0,none⟩ (.slice ps0 ns0 cs0)).setCell ⟨g,1,none⟩ (.slice pt0 nt0 ct0)).heap[g+1]?=some (.cells #[.int .i64 0,.int .i64 0,.int .i64 0,.int .i64 0] 56 (0,0)):=by
   rw [heap_set _ _ _ _ _ (by omega),heap_set _ _ _ _ _ (by omega)]
   exact HS.2
  exact ((Only.set HS.1 (by simp)).trans (Only.set h1 (by simp))).trans (Only.set h3 (by simp))
 have HG1:Hid (K1.heap[g]?=some (.cells #[.slice ps0 ns0 cs0,.slice pt0 nt0 ct0,.slice none 0 0,.slice none 0 0,.slice none 0 0,.slice none 0 0,.slice none 0 0,.slice none 0 0] 55 (0,0))∧K1.heap[g+1]?=some (.cells #[.int .i64 E0,.int .i64 0,.int .i64 0,.int .i64 0] 56 (0,0))):=by
  rw [← hK]
  have h1:=heap_setat (o:=0) (x:=.slice ps0 ns0 cs0) HS.1
  have h2:=heap_setat (o:=1) (x:=.slice pt0 nt0 ct0) h1
  have h3:((v0.setCell ⟨g,0,none⟩ (.slice ps0 ns0 cs0)).setCell ⟨g,1,none⟩ (.slice pt0 nt0 ct0)).heap[g+1]?=some (.cells #[.int .i64 0,.int .i64 0,.int .i64 0,.int .i64 0] 56 (0,0)):=by
   rw [heap_set _ _ _ _ _ (by omega),heap_set _ _ _ _ _ (by omega)]
   exact HS.2
  refine ⟨?_,(heap_setat h3).trans rfl⟩
  rw [heap_set _ _ _ _ _ (by omega)]
  exact h2.trans rfl
 have HT5:Hid (TapC K1 wa.heap.size tb [⟨1,-1,-1,0,d,x⟩,⟨1,-1,-1,0,d',y⟩]∧Below w.heap.size w K1):=by
  refine ⟨Tap.only hTv o_ (by decide) (by decide) (by decide) (by decide),?_⟩
  rw [← hK]
  have hlt:=HLt.out
  exact ((hBv.setCell (p:=⟨g,0,none⟩) hlt.2 _).setCell (p:=⟨g,1,none⟩) hlt.2 _).setCell (p:=⟨g+1,0,none⟩) (Nat.le_succ_of_le hlt.2) _
 have HX5:Hid (Bx2 K1 w.heap.size (.slice p n c) (.slice p2 n2 c2) (.slice p3 n3 c3) (.slice p4 n4 c4)):=hXv.only o_ (by decide)
 have HO0:Hid (OwnK .i64 3 K1 0 (.slice ps0 ns0 cs0) D0∧OwnK .i64 33 K1 0 (.slice pt0 nt0 ct0) X0):=⟨hOv0.1.only o_ (by decide),hOv0.2.only o_ (by decide)⟩
 clear hOv0
 clear hK o_ HS hTv hBv hXv a0 a1 b0 b1 z0 z1 q0 q1 q2 q3 q4 q5 q6 q7
 obtain ⟨E1,eE1⟩:∃ z,scaleE d x=z:=⟨_,rfl⟩
 obtain ⟨D1,eD1⟩:∃ z,scaleD d x=z:=⟨_,rfl⟩
 obtain ⟨X1,eX1⟩:∃ z,scaleV d x k=z:=⟨_,rfl⟩
 have HE1:Hid (scaleE d x=E1∧scaleD d x=D1∧scaleV d x k=X1):=⟨eE1,eD1,eX1⟩
 have cc:=tscale_any p p2 n c n2 c2 d x HI.out.1 HI.out.2.1 k HK.out K1 (HA.out.1.up HT5.out.2) (HA.out.2.1.up HT5.out.2)
 rw [eE1,eD1,eX1] at cc
 clear eE1 eD1 eX1
 refine cc.mono ?_
 rintro e v1 ⟨u1,rfl,⟨s1,t1,rfl,hs,ht⟩,hB⟩
 obtain ⟨ps1,ns1,cs1,rfl⟩:=hs.form_
 obtain ⟨pt1,nt1,ct1,rfl⟩:=ht.form_
 have HS:v1.heap[g]?=some (.cells #[.slice ps0 ns0 cs0,.slice pt0 nt0 ct0,.slice none 0 0,.slice none 0 0,.slice none 0 0,.slice none 0 0,.slice none 0 0,.slice none 0 0] 55 (0,0))∧v1.heap[g+1]?=some (.cells #[.int .i64 E0,.int .i64 0,.int .i64 0,.int .i64 0] 56 (0,0)):=⟨(hB.block _ (heap_lt HG1.out.1)).trans HG1.out.1,(hB.block _ (heap_lt HG1.out.2)).trans HG1.out.2⟩
 have hOv1:OwnK .i64 3 v1 0 (.slice ps1 ns1 cs1) D1∧OwnK .i64 33 v1 0 (.slice pt1 nt1 ct1) X1:=⟨hs.low (Nat.zero_le _),ht.low (Nat.zero_le _)⟩
 have hOv0:OwnK .i64 3 v1 0 (.slice ps0 ns0 cs0) D0∧OwnK .i64 33 v1 0 (.slice pt0 nt0 ct0) X0:=⟨HO0.out.1.up hB,HO0.out.2.up hB⟩
 clear HO0
 have hTv:TapC v1 wa.heap.size tb [⟨1,-1,-1,0,d,x⟩,⟨1,-1,-1,0,d',y⟩]:=HT5.out.1.up hB
 have hBv:Below w.heap.size w v1:=bstep HT5.out.2 hB
 have hXv:Bx2 v1 w.heap.size (.slice p n c) (.slice p2 n2 c2) (.slice p3 n3 c3) (.slice p4 n4 c4):=HX5.out.only (S:=[]) (Only.of hB) (by simp)
 obtain ⟨a0,a1,_,_⟩:=new_cel hXv.1
 obtain ⟨b0,b1,_,_⟩:=new_cel hXv.2
 have z0:=heap_lt HS.1
 have z1:=heap_lt HS.2
 have q0:=cells_at HS.1 2 _ rfl
 have q1:=cells_at HS.1 3 _ rfl
 have q2:=cells_at HS.2 1 _ rfl
 have q3:=cells_fr HS.1
 have q4:=cells_fr HS.2
 have q5:w.heap.size≠g∧w.heap.size≠g+1:=by have:=HLt.out;omega
 have q6:w.heap.size+1≠g∧w.heap.size≠g:=by have:=HLt.out;omega
 have q7:=HLt.out.1
 clear cc hs ht hB HG1 HT5 HX5
 go_wp2_with fail
 generalize hK:World.setCell _ _ _=K2
 have o_:Only [55,56] v1 K2:=by
  rw [← hK]
  have h1:=heap_setat (o:=2) (x:=.slice ps1 ns1 cs1) HS.1
  have h2:=heap_setat (o:=3) (x:=.slice pt1 nt1 ct1) h1
  have h3:((v1.setCell ⟨g,2,none⟩ (.slice ps1 ns1 cs1)).setCell ⟨g,3,none⟩ (.slice pt1 nt1 ct1)).heap[g+1]?=some (.cells #[.int .i64 E0,.int .i64 0,.int .i64 0,.int .i64 0] 56 (0,0)):=by
   rw [heap_set _ _ _ _ _ (by omega),heap_set _ _ _ _ _ (by omega)]
   exact HS.2
  exact ((Only.set HS.1 (by simp)).trans (Only.set h1 (by simp))).trans (Only.set h3 (by simp))
 have HG2:Hid (K2.heap[g]?=some (.cells #[.slice ps0 ns0 cs0,.slice pt0 nt0 ct0,.slice ps1 ns1 cs1,.slice pt1 nt1 ct1,.slice none 0 0,.slice none 0 0,.slice none 0 0,.slice none 0 0] 55 (0,0))∧K2.heap[g+1]?=some (.cells #[.int .i64 E0,.int .i64 E1,.int .i64 0,.int .i64 0] 56 (0,0))):=by
  rw [← hK]
  have h1:=heap_setat (o:=2) (x:=.slice ps1 ns1 cs1) HS.1
  have h2:=heap_setat (o:=3) (x:=.slice pt1 nt1 ct1) h1
  have h3:((v1.setCell ⟨g,2,none⟩ (.slice ps1 ns1 cs1)).setCell ⟨g,3,none⟩ (.slice pt1 nt1 ct1)).heap[g+1]?=some (.cells #[.int .i64 E0,.int .i64 0,.int .i64 0,.int .i64 0] 56 (0,0)):=by
   rw [heap_set _ _ _ _ _ (by omega),heap_set _ _ _ _ _ (by omega)]
   exact HS.2
  refine ⟨?_,(heap_setat h3).trans rfl⟩
  rw [heap_set _ _ _ _ _ (by omega)]
  exact h2.trans rfl
 have HT6:Hid (TapC K2 wa.heap.size tb [⟨1,-1,-1,0,d,x⟩,⟨1,-1,-1,0,d',y⟩]∧Below w.heap.size w K2):=by
  refine ⟨Tap.only hTv o_ (by decide) (by decide) (by decide) (by decide),?_⟩
  rw [← hK]
  have hlt:=HLt.out
  exact ((hBv.setCell (p:=⟨g,2,none⟩) hlt.2 _).setCell (p:=⟨g,3,none⟩) hlt.2 _).setCell (p:=⟨g+1,1,none⟩) (Nat.le_succ_of_le hlt.2) _
 have HX6:Hid (Bx2 K2 w.heap.size (.slice p n c) (.slice p2 n2 c2) (.slice p3 n3 c3) (.slice p4 n4 c4)):=hXv.only o_ (by decide)
 have HO0:Hid (OwnK .i64 3 K2 0 (.slice ps0 ns0 cs0) D0∧OwnK .i64 33 K2 0 (.slice pt0 nt0 ct0) X0):=⟨hOv0.1.only o_ (by decide),hOv0.2.only o_ (by decide)⟩
 clear hOv0
 have HO1:Hid (OwnK .i64 3 K2 0 (.slice ps1 ns1 cs1) D1∧OwnK .i64 33 K2 0 (.slice pt1 nt1 ct1) X1):=⟨hOv1.1.only o_ (by decide),hOv1.2.only o_ (by decide)⟩
 clear hOv1
 clear hK o_ HS hTv hBv hXv a0 a1 b0 b1 z0 z1 q0 q1 q2 q3 q4 q5 q6 q7
 obtain ⟨E2,eE2⟩:∃ z,mE d x d' y=z:=⟨_,rfl⟩
 obtain ⟨D2,eD2⟩:∃ z,mD d x d' y=z:=⟨_,rfl⟩
 obtain ⟨X2,eX2⟩:∃ z,mV d x d' y=z:=⟨_,rfl⟩
 have HE2:Hid (mE d x d' y=E2∧mD d x d' y=D2∧mV d x d' y=X2):=⟨eE2,eD2,eX2⟩
 have cc:=mul_any p p2 p3 p4 n c n2 c2 n3 c3 n4 c4 d x d' y HI.out.1 HI.out.2.1 HI.out.2.2.1 HI.out.2.2.2 K2 (Hid.up_tz hT HT6.out.2) HC.out.1 (HA.out.1.up HT6.out.2) (HA.out.2.1.up HT6.out.2) (HA.out.2.2.1.up HT6.out.2) (HA.out.2.2.2.up HT6.out.2)
 rw [eE2,eD2,eX2] at cc
 clear eE2 eD2 eX2
 refine cc.mono ?_
 rintro e v2 ⟨u2,rfl,⟨s2,t2,rfl,hs,ht⟩,hB⟩
 obtain ⟨ps2,ns2,cs2,rfl⟩:=hs.form_
 obtain ⟨pt2,nt2,ct2,rfl⟩:=ht.form_
 have HS:v2.heap[g]?=some (.cells #[.slice ps0 ns0 cs0,.slice pt0 nt0 ct0,.slice ps1 ns1 cs1,.slice pt1 nt1 ct1,.slice none 0 0,.slice none 0 0,.slice none 0 0,.slice none 0 0] 55 (0,0))∧v2.heap[g+1]?=some (.cells #[.int .i64 E0,.int .i64 E1,.int .i64 0,.int .i64 0] 56 (0,0)):=⟨(hB.block _ (heap_lt HG2.out.1)).trans HG2.out.1,(hB.block _ (heap_lt HG2.out.2)).trans HG2.out.2⟩
 have hOv2:OwnK .i64 3 v2 0 (.slice ps2 ns2 cs2) D2∧OwnK .i64 33 v2 0 (.slice pt2 nt2 ct2) X2:=⟨hs.low (Nat.zero_le _),ht.low (Nat.zero_le _)⟩
 have hOv0:OwnK .i64 3 v2 0 (.slice ps0 ns0 cs0) D0∧OwnK .i64 33 v2 0 (.slice pt0 nt0 ct0) X0:=⟨HO0.out.1.up hB,HO0.out.2.up hB⟩
 clear HO0
 have hOv1:OwnK .i64 3 v2 0 (.slice ps1 ns1 cs1) D1∧OwnK .i64 33 v2 0 (.slice pt1 nt1 ct1) X1:=⟨HO1.out.1.up hB,HO1.out.2.up hB⟩
 clear HO1
 have hTv:TapC v2 wa.heap.size tb [⟨1,-1,-1,0,d,x⟩,⟨1,-1,-1,0,d',y⟩]:=HT6.out.1.up hB
 have hBv:Below w.heap.size w v2:=bstep HT6.out.2 hB
 have hXv:Bx2 v2 w.heap.size (.slice p n c) (.slice p2 n2 c2) (.slice p3 n3 c3) (.slice p4 n4 c4):=HX6.out.only (S:=[]) (Only.of hB) (by simp)
 obtain ⟨a0,a1,_,_⟩:=new_cel hXv.1
 obtain ⟨b0,b1,_,_⟩:=new_cel hXv.2
 have z0:=heap_lt HS.1
 have z1:=heap_lt HS.2
 have q0:=cells_at HS.1 4 _ rfl
 have q1:=cells_at HS.1 5 _ rfl
 have q2:=cells_at HS.2 2 _ rfl
 have q3:=cells_fr HS.1
 have q4:=cells_fr HS.2
 have q5:w.heap.size≠g∧w.heap.size≠g+1:=by have:=HLt.out;omega
 have q6:w.heap.size+1≠g∧w.heap.size≠g:=by have:=HLt.out;omega
 have q7:=HLt.out.1
 clear cc hs ht hB HG2 HT6 HX6
 go_wp2_with fail
 generalize hK:World.setCell _ _ _=K3
 have o_:Only [55,56] v2 K3:=by
  rw [← hK]
  have h1:=heap_setat (o:=4) (x:=.slice ps2 ns2 cs2) HS.1
  have h2:=heap_setat (o:=5) (x:=.slice pt2 nt2 ct2) h1
  have h3:((v2.setCell ⟨g,4,none⟩ (.slice ps2 ns2 cs2)).setCell ⟨g,5,none⟩ (.slice pt2 nt2 ct2)).heap[g+1]?=some (.cells #[.int .i64 E0,.int .i64 E1,.int .i64 0,.int .i64 0] 56 (0,0)):=by
   rw [heap_set _ _ _ _ _ (by omega),heap_set _ _ _ _ _ (by omega)]
   exact HS.2
  exact ((Only.set HS.1 (by simp)).trans (Only.set h1 (by simp))).trans (Only.set h3 (by simp))
 have HG3:Hid (K3.heap[g]?=some (.cells #[.slice ps0 ns0 cs0,.slice pt0 nt0 ct0,.slice ps1 ns1 cs1,.slice pt1 nt1 ct1,.slice ps2 ns2 cs2,.slice pt2 nt2 ct2,.slice none 0 0,.slice none 0 0] 55 (0,0))∧K3.heap[g+1]?=some (.cells #[.int .i64 E0,.int .i64 E1,.int .i64 E2,.int .i64 0] 56 (0,0))):=by
  rw [← hK]
  have h1:=heap_setat (o:=4) (x:=.slice ps2 ns2 cs2) HS.1
  have h2:=heap_setat (o:=5) (x:=.slice pt2 nt2 ct2) h1
  have h3:((v2.setCell ⟨g,4,none⟩ (.slice ps2 ns2 cs2)).setCell ⟨g,5,none⟩ (.slice pt2 nt2 ct2)).heap[g+1]?=some (.cells #[.int .i64 E0,.int .i64 E1,.int .i64 0,.int .i64 0] 56 (0,0)):=by
   rw [heap_set _ _ _ _ _ (by omega),heap_set _ _ _ _ _ (by omega)]
   exact HS.2
  refine ⟨?_,(heap_setat h3).trans rfl⟩
  rw [heap_set _ _ _ _ _ (by omega)]
  exact h2.trans rfl
 have HT7:Hid (TapC K3 wa.heap.size tb [⟨1,-1,-1,0,d,x⟩,⟨1,-1,-1,0,d',y⟩]∧Below w.heap.size w K3):=by
  refine ⟨Tap.only hTv o_ (by decide) (by decide) (by decide) (by decide),?_⟩
  rw [← hK]
  have hlt:=HLt.out
  exact ((hBv.setCell (p:=⟨g,4,none⟩) hlt.2 _).setCell (p:=⟨g,5,none⟩) hlt.2 _).setCell (p:=⟨g+1,2,none⟩) (Nat.le_succ_of_le hlt.2) _
 have HX7:Hid (Bx2 K3 w.heap.size (.slice p n c) (.slice p2 n2 c2) (.slice p3 n3 c3) (.slice p4 n4 c4)):=hXv.only o_ (by decide)
 have HO0:Hid (OwnK .i64 3 K3 0 (.slice ps0 ns0 cs0) D0∧OwnK .i64 33 K3 0 (.slice pt0 nt0 ct0) X0):=⟨hOv0.1.only o_ (by decide),hOv0.2.only o_ (by decide)⟩
 clear hOv0
 have HO1:Hid (OwnK .i64 3 K3 0 (.slice ps1 ns1 cs1) D1∧OwnK .i64 33 K3 0 (.slice pt1 nt1 ct1) X1):=⟨hOv1.1.only o_ (by decide),hOv1.2.only o_ (by decide)⟩
 clear hOv1
 have HO2:Hid (OwnK .i64 3 K3 0 (.slice ps2 ns2 cs2) D2∧OwnK .i64 33 K3 0 (.slice pt2 nt2 ct2) X2):=⟨hOv2.1.only o_ (by decide),hOv2.2.only o_ (by decide)⟩
 clear hOv2
 clear hK o_ HS hTv hBv hXv a0 a1 b0 b1 z0 z1 q0 q1 q2 q3 q4 q5 q6 q7
 obtain ⟨E3,eE3⟩:∃ z,flE d' y=z:=⟨_,rfl⟩
 obtain ⟨D3,eD3⟩:∃ z,flD d' y=z:=⟨_,rfl⟩
 obtain ⟨X3,eX3⟩:∃ z,flV d' y=z:=⟨_,rfl⟩
 have HE3:Hid (flE d' y=E3∧flD d' y=D3∧flV d' y=X3):=⟨eE3,eD3,eX3⟩
 have cc:=flip_any p3 p4 n3 c3 n4 c4 d' y HI.out.2.2.1 K3 (HA.out.2.2.1.up HT7.out.2) (HA.out.2.2.2.up HT7.out.2)
 rw [eE3,eD3,eX3] at cc
 clear eE3 eD3 eX3
 refine cc.mono ?_
 rintro e v3 ⟨u3,rfl,⟨s3,t3,rfl,hs,ht⟩,hB⟩
 obtain ⟨ps3,ns3,cs3,rfl⟩:=hs.form_
 obtain ⟨pt3,nt3,ct3,rfl⟩:=ht.form_
 have HS:v3.heap[g]?=some (.cells #[.slice ps0 ns0 cs0,.slice pt0 nt0 ct0,.slice ps1 ns1 cs1,.slice pt1 nt1 ct1,.slice ps2 ns2 cs2,.slice pt2 nt2 ct2,.slice none 0 0,.slice none 0 0] 55 (0,0))∧v3.heap[g+1]?=some (.cells #[.int .i64 E0,.int .i64 E1,.int .i64 E2,.int .i64 0] 56 (0,0)):=⟨(hB.block _ (heap_lt HG3.out.1)).trans HG3.out.1,(hB.block _ (heap_lt HG3.out.2)).trans HG3.out.2⟩
 have hOv3:OwnK .i64 3 v3 0 (.slice ps3 ns3 cs3) D3∧OwnK .i64 33 v3 0 (.slice pt3 nt3 ct3) X3:=⟨hs.low (Nat.zero_le _),ht.low (Nat.zero_le _)⟩
 have hOv0:OwnK .i64 3 v3 0 (.slice ps0 ns0 cs0) D0∧OwnK .i64 33 v3 0 (.slice pt0 nt0 ct0) X0:=⟨HO0.out.1.up hB,HO0.out.2.up hB⟩
 clear HO0
 have hOv1:OwnK .i64 3 v3 0 (.slice ps1 ns1 cs1) D1∧OwnK .i64 33 v3 0 (.slice pt1 nt1 ct1) X1:=⟨HO1.out.1.up hB,HO1.out.2.up hB⟩
 clear HO1
 have hOv2:OwnK .i64 3 v3 0 (.slice ps2 ns2 cs2) D2∧OwnK .i64 33 v3 0 (.slice pt2 nt2 ct2) X2:=⟨HO2.out.1.up hB,HO2.out.2.up hB⟩
 clear HO2
 have hTv:TapC v3 wa.heap.size tb [⟨1,-1,-1,0,d,x⟩,⟨1,-1,-1,0,d',y⟩]:=HT7.out.1.up hB
 have hBv:Below w.heap.size w v3:=bstep HT7.out.2 hB
 have hXv:Bx2 v3 w.heap.size (.slice p n c) (.slice p2 n2 c2) (.slice p3 n3 c3) (.slice p4 n4 c4):=HX7.out.only (S:=[]) (Only.of hB) (by simp)
 obtain ⟨a0,a1,_,_⟩:=new_cel hXv.1
 obtain ⟨b0,b1,_,_⟩:=new_cel hXv.2
 have z0:=heap_lt HS.1
 have z1:=heap_lt HS.2
 have q0:=cells_at HS.1 6 _ rfl
 have q1:=cells_at HS.1 7 _ rfl
 have q2:=cells_at HS.2 3 _ rfl
 have q3:=cells_fr HS.1
 have q4:=cells_fr HS.2
 have q5:w.heap.size≠g∧w.heap.size≠g+1:=by have:=HLt.out;omega
 have q6:w.heap.size+1≠g∧w.heap.size≠g:=by have:=HLt.out;omega
 have q7:=HLt.out.1
 clear cc hs ht hB HG3 HT7 HX7
 go_wp2_with fail
 generalize hK:World.setCell _ _ _=K4
 have o_:Only [55,56] v3 K4:=by
  rw [← hK]
  have h1:=heap_setat (o:=6) (x:=.slice ps3 ns3 cs3) HS.1
  have h2:=heap_setat (o:=7) (x:=.slice pt3 nt3 ct3) h1
  have h3:((v3.setCell ⟨g,6,none⟩ (.slice ps3 ns3 cs3)).setCell ⟨g,7,none⟩ (.slice pt3 nt3 ct3)).heap[g+1]?=some (.cells #[.int .i64 E0,.int .i64 E1,.int .i64 E2,.int .i64 0] 56 (0,0)):=by
   rw [heap_set _ _ _ _ _ (by omega),heap_set _ _ _ _ _ (by omega)]
   exact HS.2
  exact ((Only.set HS.1 (by simp)).trans (Only.set h1 (by simp))).trans (Only.set h3 (by simp))
 have HG4:Hid (K4.heap[g]?=some (.cells #[.slice ps0 ns0 cs0,.slice pt0 nt0 ct0,.slice ps1 ns1 cs1,.slice pt1 nt1 ct1,.slice ps2 ns2 cs2,.slice pt2 nt2 ct2,.slice ps3 ns3 cs3,.slice pt3 nt3 ct3] 55 (0,0))∧K4.heap[g+1]?=some (.cells #[.int .i64 E0,.int .i64 E1,.int .i64 E2,.int .i64 E3] 56 (0,0))):=by
  rw [← hK]
  have h1:=heap_setat (o:=6) (x:=.slice ps3 ns3 cs3) HS.1
  have h2:=heap_setat (o:=7) (x:=.slice pt3 nt3 ct3) h1
  have h3:((v3.setCell ⟨g,6,none⟩ (.slice ps3 ns3 cs3)).setCell ⟨g,7,none⟩ (.slice pt3 nt3 ct3)).heap[g+1]?=some (.cells #[.int .i64 E0,.int .i64 E1,.int .i64 E2,.int .i64 0] 56 (0,0)):=by
   rw [heap_set _ _ _ _ _ (by omega),heap_set _ _ _ _ _ (by omega)]
   exact HS.2
  refine ⟨?_,(heap_setat h3).trans rfl⟩
  rw [heap_set _ _ _ _ _ (by omega)]
  exact h2.trans rfl
 have HT8:Hid (TapC K4 wa.heap.size tb [⟨1,-1,-1,0,d,x⟩,⟨1,-1,-1,0,d',y⟩]∧Below w.heap.size w K4):=by
  refine ⟨Tap.only hTv o_ (by decide) (by decide) (by decide) (by decide),?_⟩
  rw [← hK]
  have hlt:=HLt.out
  exact ((hBv.setCell (p:=⟨g,6,none⟩) hlt.2 _).setCell (p:=⟨g,7,none⟩) hlt.2 _).setCell (p:=⟨g+1,3,none⟩) (Nat.le_succ_of_le hlt.2) _
 have HX8:Hid (Bx2 K4 w.heap.size (.slice p n c) (.slice p2 n2 c2) (.slice p3 n3 c3) (.slice p4 n4 c4)):=hXv.only o_ (by decide)
 have HO0:Hid (OwnK .i64 3 K4 0 (.slice ps0 ns0 cs0) D0∧OwnK .i64 33 K4 0 (.slice pt0 nt0 ct0) X0):=⟨hOv0.1.only o_ (by decide),hOv0.2.only o_ (by decide)⟩
 clear hOv0
 have HO1:Hid (OwnK .i64 3 K4 0 (.slice ps1 ns1 cs1) D1∧OwnK .i64 33 K4 0 (.slice pt1 nt1 ct1) X1):=⟨hOv1.1.only o_ (by decide),hOv1.2.only o_ (by decide)⟩
 clear hOv1
 have HO2:Hid (OwnK .i64 3 K4 0 (.slice ps2 ns2 cs2) D2∧OwnK .i64 33 K4 0 (.slice pt2 nt2 ct2) X2):=⟨hOv2.1.only o_ (by decide),hOv2.2.only o_ (by decide)⟩
 clear hOv2
 have HO3:Hid (OwnK .i64 3 K4 0 (.slice ps3 ns3 cs3) D3∧OwnK .i64 33 K4 0 (.slice pt3 nt3 ct3) X3):=⟨hOv3.1.only o_ (by decide),hOv3.2.only o_ (by decide)⟩
 clear hOv3
 clear hK o_ HS hTv hBv hXv a0 a1 b0 b1 z0 z1 q0 q1 q2 q3 q4 q5 q6 q7
 have HW4:Hid (Want4 K4 g (g+1) (.slice ps0 ns0 cs0) (.slice pt0 nt0 ct0) (.slice ps1 ns1 cs1) (.slice pt1 nt1 ct1) (.slice ps2 ns2 cs2) (.slice pt2 nt2 ct2) (.slice ps3 ns3 cs3) (.slice pt3 nt3 ct3) D0 X0 D1 X1 D2 X2 D3 X3 E0 E1 E2 E3):=⟨HG4.out,HO0.out.1,HO0.out.2,HO1.out.1,HO1.out.2,HO2.out.1,HO2.out.2,HO3.out.1,HO3.out.2⟩
 have HI4:Hid (TapC K4 wa.heap.size tb ([⟨1,-1,-1,0,d,x⟩,⟨1,-1,-1,0,d',y⟩]:List Nd)∧NodesG ([⟨1,-1,-1,0,d,x⟩,⟨1,-1,-1,0,d',y⟩]:List Nd)∧([⟨1,-1,-1,0,d,x⟩,⟨1,-1,-1,0,d',y⟩]:List Nd)[0]?=some ⟨1,-1,-1,0,d,x⟩∧([⟨1,-1,-1,0,d,x⟩,⟨1,-1,-1,0,d',y⟩]:List Nd)[1]?=some ⟨1,-1,-1,0,d',y⟩∧(([⟨1,-1,-1,0,d,x⟩,⟨1,-1,-1,0,d',y⟩]:List Nd).length:Int)≤(0:Int)+2∧Below w.heap.size w K4):=⟨HT8.out.1,HGb.out,rfl,rfl,by simp,HT8.out.2⟩
 clear HG4 HO0 HO1 HO2 HO3 HT8 HX8 HGb
 go_loopg [14] 4 (fun gg i wr=>∃ (z:Int) (ns:List Nd),0≤z∧z≤4∧gg=(4 - z).toNat∧i = .int .i64 z∧Hid (TapC wr wa.heap.size tb ns∧NodesG ns∧ns[0]?=some ⟨1,-1,-1,0,d,x⟩∧ns[1]?=some ⟨1,-1,-1,0,d',y⟩∧(ns.length:Int)≤z+2∧Below w.heap.size w wr)∧Hid (Want4 wr g (g+1) (.slice ps0 ns0 cs0) (.slice pt0 nt0 ct0) (.slice ps1 ns1 cs1) (.slice pt1 nt1 ct1) (.slice ps2 ns2 cs2) (.slice pt2 nt2 ct2) (.slice ps3 ns3 cs3) (.slice pt3 nt3 ct3) D0 X0 D1 X1 D2 X2 D3 X3 E0 E1 E2 E3))
 case atStart=>exact ⟨0,_,by omega,by omega,by decide,rfl,HI4,HW4⟩
 case round=>
  obtain ⟨z,ns,hz0,hz4,hgg,rfl,HJ,HW⟩:=hrel
  obtain ⟨R1,hR1⟩:∃ R1:World,R1=wr:=⟨_,rfl⟩
  subst hR1
  clear HI4 HW4
  by_cases hz:z < 4
  case neg=>
   obtain rfl:z=4:=by omega
   go_wp2
   go_ret
   exact ⟨rfl,HJ.out.2.2.2.2.2⟩
  rcases (show z=0∨z=1∨z=2∨z=3 by omega) with rfl|rfl|rfl|rfl
  ·have hop:=op2 (k:=k) HJ.out.2.2.1 HJ.out.2.2.2.1 (by have:=HJ.out.2.2.2.2.1;omega)
   rw [HE0.out.1,HE0.out.2.1,HE0.out.2.2] at hop
   have hGn:=NodesG.do (op:=2) (a:=0) (b:=1) (k:=k) HJ.out.2.1
   obtain ⟨RR,eR⟩:∃ z,doR ns 2 0 1 k=z:=⟨_,rfl⟩
   obtain ⟨NS,eS⟩:∃ z,doN ns 2 0 1 k=z:=⟨_,rfl⟩
   rw [eR,eS] at hop
   rw [eS] at hGn
   have HBz:Hid (wa.heap.size≤R1.heap.size):=Nat.le_trans HBB.out (Nat.le_of_lt (by obtain ⟨_,_,_,hv,_⟩:=Tap.head HJ.out.1;exact heap_lt hv))
   have CD:Hid (∀ W,Below R1.heap.size R1 W→Calls Tryz.prog 11 #[.pointer (some ⟨tb,0,none⟩),.int .i64 2,.int .i64 0,.int .i64 1,.int .i64 k] W fun e w'=>e = .returned (.tuple #[.int .i64 RR,.int .i64 E0])∧TapC w' wa.heap.size tb NS∧Below wa.heap.size W w'∧Only SC W w'):=fun W hW=>by
    have h:=cdo_any wa.heap.size tb ns HJ.out.2.1 2 0 1 k ⟨by unfold InR;omega,by unfold InR;omega,by unfold InR;omega,HK.out⟩ W (HJ.out.1.up hW) (Hid.up_tz hT (bstep HJ.out.2.2.2.2.2 hW))
    rw [eR,eS,hop.1] at h
    exact h
   clear eR eS hz hz0 hz4
   go_wp2_with fail
   refine from_region (by kernel_rfl) ?_
   refine seg (fun q W=>match q with|false=>Below R1.heap.size R1 W|true=>TapC W wa.heap.size tb NS∧Below wa.heap.size R1 W∧Only SC R1 W) (fun _ _=>True) 13 [⟨13,119,fun v _=>v = .tuple #[.int .i64 RR,.int .i64 E0]⟩,⟨14,105,fun v _=>v = .tuple #[.int .i64 RR,.int .i64 E0]⟩] 0 19 145 rfl rfl (by kernel_rfl) (by rfl) ?_ ?_ ?_ ?_ ?_ ?_
   ·intro q W W' h hb
    cases q
    ·exact bstep h hb
    ·exact ⟨h.1.up hb,h.2.1.trans (hb.mono (Nat.le_trans HBz.out h.2.2.1)),h.2.2.up hb⟩
   ·exact ⟨rfl,rfl,rfl,Nat.le_refl _,fun _ _=>rfl⟩
   ·exact .inl ⟨_,List.mem_cons_self,rfl⟩
   ·intro e he v W W' h hb
    simp only [List.mem_cons,List.not_mem_nil,or_false] at he
    rcases he with rfl|rfl
    ·exact h
    ·exact h
   ·intro e he hne v W W' h hc ht
    simp only [List.mem_cons,List.not_mem_nil,or_false] at he
    rcases he with rfl|rfl
    ·exact h
    ·exact h
   apply Exists.intro
   refine ⟨fun x=>?_,?_,?_⟩
   ·simp only [List.drop_succ_cons,List.drop_zero,List.take_succ_cons,List.take_zero]
    iterate 13
     refine segQuiet rfl rfl ?_
     apply Exists.intro
     refine ⟨fun b F hF hf K hK=>?_,?_⟩
     ·have hFc:=hF.cls
      go_big_quiet_op
      first|exact hK|(apply Exists.intro;refine ⟨fun _=>?_,?_⟩;(· fail);exact hK)
     (try simp only [Act.put,List.setIfInBounds_toArray,List.set_cons_zero,List.set_cons_succ])
    refine segBusy rfl rfl rfl ?_ ?_
    ·intro W hW hf
     simp [leavesR,leavesUpon,go_sem]
     refine (CD.out W hW).mono ?_
     rintro e' w6 ⟨rfl,h1,h2,h3⟩
     exact ⟨_,rfl,rfl,h1,(hW.mono HBz.out).trans h2,(Only.of hW).trans h3⟩
    (try simp only [Act.put,List.setIfInBounds_toArray,List.set_cons_zero,List.set_cons_succ])
    refine segTold rfl (by decide) rfl ?_ ?_
    ·intro b F hF hf d
     have hFc:=hF.cls
     have h9:=hf _ List.mem_cons_self (by rfl) d
     simp [yieldsR,yieldsUpon,go_sem]
     exact ⟨h9,Below.refl _ _⟩
    iterate 2
     (try simp only [Act.put,List.setIfInBounds_toArray,List.set_cons_zero,List.set_cons_succ])
     refine segQuiet rfl rfl ?_
     apply Exists.intro
     refine ⟨fun b F hF hf K hK=>?_,?_⟩
     ·have hFc:=hF.cls
      have h9:=hf _ (List.mem_cons_of_mem _ List.mem_cons_self) (by rfl) w
      simp only [] at h9
      go_big_quiet_op
      first|exact hK|(apply Exists.intro;refine ⟨fun _=>?_,?_⟩;(· fail);exact hK)
    iterate 2
     (try simp only [Act.put,List.setIfInBounds_toArray,List.set_cons_zero,List.set_cons_succ])
     refine segQuiet rfl rfl ?_
     apply Exists.intro
     refine ⟨fun b F hF hf K hK=>?_,?_⟩
     ·have hFc:=hF.cls
      go_big_quiet_op
      first|exact hK|(apply Exists.intro;refine ⟨fun _=>?_,?_⟩;(· fail);exact hK)
    (try simp only [Act.put,List.setIfInBounds_toArray,List.set_cons_zero,List.set_cons_succ])
    refine segEnd ?_
    exact rfl
   ·exact fun x=>rfl
   ·intro w5 xs5 hC5 hf5
    have hC5':TapC w5 wa.heap.size tb NS∧Below wa.heap.size R1 w5∧Only SC R1 w5:=hC5
    have e13:=hf5 _ List.mem_cons_self
    have e14:=hf5 _ (List.mem_cons_of_mem _ List.mem_cons_self)
    simp only [] at e13 e14
    simp only [e13,e14]
    refine from_end 19 rfl ?_
    have HW5:Hid (Want4 w5 g (g+1) (.slice ps0 ns0 cs0) (.slice pt0 nt0 ct0) (.slice ps1 ns1 cs1) (.slice pt1 nt1 ct1) (.slice ps2 ns2 cs2) (.slice pt2 nt2 ct2) (.slice ps3 ns3 cs3) (.slice pt3 nt3 ct3) D0 X0 D1 X1 D2 X2 D3 X3 E0 E1 E2 E3):=HW.out.only hC5'.2.2 (by decide) (by decide) (by decide) (by decide)
    have HB5:Hid (Below w.heap.size w w5):=HJ.out.2.2.2.2.2.trans (hC5'.2.1.mono HBa.out.size)
    have qc:=cells_at HW5.out.1.2 0 _ rfl
    have qz:=heap_lt HW5.out.1.2
    by_cases hE:E0=0
    case neg=>
     have hE':(E0 != 0)=true:=by simpa using hE
     have eNS:NS=ns:=hop.2.2 hE
     subst eNS
     have HJ5:Hid (TapC w5 wa.heap.size tb NS∧NodesG NS∧NS[0]?=some ⟨1,-1,-1,0,d,x⟩∧NS[1]?=some ⟨1,-1,-1,0,d',y⟩∧(NS.length:Int)≤(1:Int)+2∧Below w.heap.size w w5):=⟨hC5'.1,HJ.out.2.1,HJ.out.2.2.1,HJ.out.2.2.2.1,by have:=HJ.out.2.2.2.2.1;omega,HB5.out⟩
     clear hC5 hC5' hf5 e13 e14 hop hE CD HJ
     go_wp2
     go_roundg 3
     case measure=>omega
     case rel=>exact ⟨1,_,by omega,by omega,by decide,rfl,HJ5,HW5⟩
    obtain ⟨eRR,eNS⟩:=hop.2.1 hE
    subst hE eRR eNS
    have HN5:Hid (NodesG (ns++[⟨2,0,1,0,D0,X0⟩])):=hGn
    have HJ5:Hid (TapC w5 wa.heap.size tb (ns++[(⟨2,0,1,0,D0,X0⟩:Nd)])∧NodesG (ns++[(⟨2,0,1,0,D0,X0⟩:Nd)])∧(ns++[(⟨2,0,1,0,D0,X0⟩:Nd)])[0]?=some ⟨1,-1,-1,0,d,x⟩∧(ns++[(⟨2,0,1,0,D0,X0⟩:Nd)])[1]?=some ⟨1,-1,-1,0,d',y⟩∧((ns++[(⟨2,0,1,0,D0,X0⟩:Nd)]).length:Int)≤(1:Int)+2∧Below w.heap.size w w5):=⟨hC5'.1,HN5.out,(List.getElem?_append_left (by have:=(List.getElem?_eq_some_iff.1 HJ.out.2.2.1).1;omega)).trans HJ.out.2.2.1,(List.getElem?_append_left (List.getElem?_eq_some_iff.1 HJ.out.2.2.2.1).1).trans HJ.out.2.2.2.1,by have:=HJ.out.2.2.2.2.1;simp;omega,HB5.out⟩
    have hnd:(ns++[⟨2,0,1,0,D0,X0⟩])[ns.length]?=some ⟨2,0,1,0,D0,X0⟩:=by simp
    have HF5:=few_g (HN5.out _ (nd_mem hnd))
    clear hC5 hC5' hf5 e13 e14 hop hGn CD HJ
    go_wp2_with fail
    refine (cvalue_any wa.heap.size tb _ HN5.out ns.length _ hnd w5 HJ5.out.1).mono ?_
    rintro e w6 ⟨v6,rfl,⟨s6,t6,rfl,hs6,ht6⟩,hB6⟩
    obtain ⟨pa,na,ca,rfl⟩:=hs6.form_
    obtain ⟨pb,nb,cb,rfl⟩:=ht6.form_
    go_wp2_with fail
    refine name_world (fun M hM=>?_)
    have hL:Below w6.heap.size w6 M:=by rw [hM];exact up_alloc w6 _
    have hBM:Below w5.heap.size w5 M:=bstep hB6 hL
    have HXm:Cel M w6.heap.size (.slice pa na ca) (.slice pb nb cb):=by rw [hM];exact new_cel (heap_alloc_new _ _)
    have HWm:Hid (Want4 M g (g+1) (.slice ps0 ns0 cs0) (.slice pt0 nt0 ct0) (.slice ps1 ns1 cs1) (.slice pt1 nt1 ct1) (.slice ps2 ns2 cs2) (.slice pt2 nt2 ct2) (.slice ps3 ns3 cs3) (.slice pt3 nt3 ct3) D0 X0 D1 X1 D2 X2 D3 X3 0 E1 E2 E3):=HW5.out.only (S:=[]) (Only.of hBM) (by simp) (by simp) (by simp) (by simp)
    have HJm:Hid (TapC M wa.heap.size tb (ns++[(⟨2,0,1,0,D0,X0⟩:Nd)])∧NodesG (ns++[(⟨2,0,1,0,D0,X0⟩:Nd)])∧(ns++[(⟨2,0,1,0,D0,X0⟩:Nd)])[0]?=some ⟨1,-1,-1,0,d,x⟩∧(ns++[(⟨2,0,1,0,D0,X0⟩:Nd)])[1]?=some ⟨1,-1,-1,0,d',y⟩∧((ns++[(⟨2,0,1,0,D0,X0⟩:Nd)]).length:Int)≤(1:Int)+2∧Below w.heap.size w M):=⟨HJ5.out.1.up hBM,HN5.out,HJ5.out.2.2.1,HJ5.out.2.2.2.1,HJ5.out.2.2.2.2.1,bstep HB5.out hBM⟩
    have HVm:Hid (Tn D0 X0 (.agg #[.slice pa na ca,.slice pb nb cb]) M):=⟨_,_,_,_,_,_,rfl,hs6.nums.up hL,ht6.nums.up hL⟩
    have HUm:Hid (Tn D0 X0 (.agg #[.slice ps0 ns0 cs0,.slice pt0 nt0 ct0]) M):=⟨_,_,_,_,_,_,rfl,HWm.out.2.1.nums,HWm.out.2.2.1.nums⟩
    have ck:Hid (∀ W,Below M.heap.size M W→Calls Tryz.prog 18 #[.agg #[.slice pa na ca,.slice pb nb cb],.agg #[.slice ps0 ns0 cs0,.slice pt0 nt0 ct0]] W fun e w'=>e = .returned (.bool true)∧Below W.heap.size W w'):=fun W hW=>by
     have ca:=alike_tn (HVm.out.up hW) (HUm.out.up hW) HF5.1 HF5.2
     rw [decide_eq_true ⟨rfl,rfl⟩] at ca
     exact ca
    obtain ⟨x0,x1,_,_⟩:=HXm
    have y0:=cells_at HWm.out.1.1 0 _ rfl
    have y1:=cells_at HWm.out.1.1 1 _ rfl
    have l0:=cell_lt x0
    have l1:=cell_lt y0
    clear hM hs6 ht6 hB6 hL hBM HJ5 HW5 HN5 HF5 hnd HVm HUm qc qz HB5
    refine rel [] 10 145 (by kernel_rfl) rfl rfl (by kernel_rfl) (by rfl) ?_ ?_
    ·intro e he v W W' h hb
     cases he
    apply Exists.intro
    refine ⟨fun x=>?_,?_,?_⟩
    ·simp only [List.take_succ_cons,List.take_zero]
     iterate 7
      refine relQuiet rfl rfl ?_
      apply Exists.intro
      refine ⟨fun F hF hf K hK=>?_,?_⟩
      ·have hFc:=hF.cell
       have hFf:=hF.frozen
       go_big_quiet_op
       first|exact hK|(apply Exists.intro;refine ⟨fun _=>?_,?_⟩;(· fail);exact hK)
      (try simp only [Act.put,List.setIfInBounds_toArray,List.set_cons_zero,List.set_cons_succ])
     refine relQuiet rfl rfl ?_
     apply Exists.intro
     refine ⟨fun F hF hf K hK=>?_,?_⟩
     ·have hFc:=hF.cell
      have hFf:=hF.frozen
      go_big_quiet_op
      first|exact hK|(apply Exists.intro;refine ⟨fun _=>?_,?_⟩;(· exact hF.call (ck.out _ (hF.below _)));exact hK)
     iterate 2
      (try simp only [Act.put,List.setIfInBounds_toArray,List.set_cons_zero,List.set_cons_succ])
      refine relQuiet rfl rfl ?_
      apply Exists.intro
      refine ⟨fun F hF hf K hK=>?_,?_⟩
      ·have hFc:=hF.cell
       have hFf:=hF.frozen
       go_big_quiet_op
       first|exact hK|(apply Exists.intro;refine ⟨fun _=>?_,?_⟩;(· fail);exact hK)
     (try simp only [Act.put,List.setIfInBounds_toArray,List.set_cons_zero,List.set_cons_succ])
     refine relEnd ?_
     exact rfl
    ·exact fun x=>rfl
    ·intro w9 xs hB9 hf
     simp only [List.drop_succ_cons,List.drop_zero]
     have HW9:Hid (Want4 w9 g (g+1) (.slice ps0 ns0 cs0) (.slice pt0 nt0 ct0) (.slice ps1 ns1 cs1) (.slice pt1 nt1 ct1) (.slice ps2 ns2 cs2) (.slice pt2 nt2 ct2) (.slice ps3 ns3 cs3) (.slice pt3 nt3 ct3) D0 X0 D1 X1 D2 X2 D3 X3 0 E1 E2 E3):=HWm.out.only (S:=[]) (Only.of hB9) (by simp) (by simp) (by simp) (by simp)
     have HJ9:Hid (TapC w9 wa.heap.size tb (ns++[(⟨2,0,1,0,D0,X0⟩:Nd)])∧NodesG (ns++[(⟨2,0,1,0,D0,X0⟩:Nd)])∧(ns++[(⟨2,0,1,0,D0,X0⟩:Nd)])[0]?=some ⟨1,-1,-1,0,d,x⟩∧(ns++[(⟨2,0,1,0,D0,X0⟩:Nd)])[1]?=some ⟨1,-1,-1,0,d',y⟩∧((ns++[(⟨2,0,1,0,D0,X0⟩:Nd)]).length:Int)≤(1:Int)+2∧Below w.heap.size w w9):=⟨HJm.out.1.up hB9,HJm.out.2.1,HJm.out.2.2.1,HJm.out.2.2.2.1,HJm.out.2.2.2.2.1,bstep HJm.out.2.2.2.2.2 hB9⟩
     clear hf hB9 ck HWm HJm x0 x1 y0 y1 l0 l1
     go_wp2
     go_roundg 3
     case measure=>omega
     case rel=>exact ⟨1,_,by omega,by omega,by decide,rfl,HJ9,HW9⟩
  ·have hop:=op5 (k:=k) HJ.out.2.2.1 HJ.out.2.2.2.1 (by have:=HJ.out.2.2.2.2.1;omega)
   rw [HE1.out.1,HE1.out.2.1,HE1.out.2.2] at hop
   have hGn:=NodesG.do (op:=5) (a:=0) (b:=1) (k:=k) HJ.out.2.1
   obtain ⟨RR,eR⟩:∃ z,doR ns 5 0 1 k=z:=⟨_,rfl⟩
   obtain ⟨NS,eS⟩:∃ z,doN ns 5 0 1 k=z:=⟨_,rfl⟩
   rw [eR,eS] at hop
   rw [eS] at hGn
   have HBz:Hid (wa.heap.size≤R1.heap.size):=Nat.le_trans HBB.out (Nat.le_of_lt (by obtain ⟨_,_,_,hv,_⟩:=Tap.head HJ.out.1;exact heap_lt hv))
   have CD:Hid (∀ W,Below R1.heap.size R1 W→Calls Tryz.prog 11 #[.pointer (some ⟨tb,0,none⟩),.int .i64 5,.int .i64 0,.int .i64 1,.int .i64 k] W fun e w'=>e = .returned (.tuple #[.int .i64 RR,.int .i64 E1])∧TapC w' wa.heap.size tb NS∧Below wa.heap.size W w'∧Only SC W w'):=fun W hW=>by
    have h:=cdo_any wa.heap.size tb ns HJ.out.2.1 5 0 1 k ⟨by unfold InR;omega,by unfold InR;omega,by unfold InR;omega,HK.out⟩ W (HJ.out.1.up hW) (Hid.up_tz hT (bstep HJ.out.2.2.2.2.2 hW))
    rw [eR,eS,hop.1] at h
    exact h
   clear eR eS hz hz0 hz4
   go_wp2_with fail
   refine from_region (by kernel_rfl) ?_
   refine seg (fun q W=>match q with|false=>Below R1.heap.size R1 W|true=>TapC W wa.heap.size tb NS∧Below wa.heap.size R1 W∧Only SC R1 W) (fun _ _=>True) 13 [⟨13,119,fun v _=>v = .tuple #[.int .i64 RR,.int .i64 E1]⟩,⟨14,105,fun v _=>v = .tuple #[.int .i64 RR,.int .i64 E1]⟩] 0 19 145 rfl rfl (by kernel_rfl) (by rfl) ?_ ?_ ?_ ?_ ?_ ?_
   ·intro q W W' h hb
    cases q
    ·exact bstep h hb
    ·exact ⟨h.1.up hb,h.2.1.trans (hb.mono (Nat.le_trans HBz.out h.2.2.1)),h.2.2.up hb⟩
   ·exact ⟨rfl,rfl,rfl,Nat.le_refl _,fun _ _=>rfl⟩
   ·exact .inl ⟨_,List.mem_cons_self,rfl⟩
   ·intro e he v W W' h hb
    simp only [List.mem_cons,List.not_mem_nil,or_false] at he
    rcases he with rfl|rfl
    ·exact h
    ·exact h
   ·intro e he hne v W W' h hc ht
    simp only [List.mem_cons,List.not_mem_nil,or_false] at he
    rcases he with rfl|rfl
    ·exact h
    ·exact h
   apply Exists.intro
   refine ⟨fun x=>?_,?_,?_⟩
   ·simp only [List.drop_succ_cons,List.drop_zero,List.take_succ_cons,List.take_zero]
    iterate 13
     refine segQuiet rfl rfl ?_
     apply Exists.intro
     refine ⟨fun b F hF hf K hK=>?_,?_⟩
     ·have hFc:=hF.cls
      go_big_quiet_op
      first|exact hK|(apply Exists.intro;refine ⟨fun _=>?_,?_⟩;(· fail);exact hK)
     (try simp only [Act.put,List.setIfInBounds_toArray,List.set_cons_zero,List.set_cons_succ])
    refine segBusy rfl rfl rfl ?_ ?_
    ·intro W hW hf
     simp [leavesR,leavesUpon,go_sem]
     refine (CD.out W hW).mono ?_
     rintro e' w6 ⟨rfl,h1,h2,h3⟩
     exact ⟨_,rfl,rfl,h1,(hW.mono HBz.out).trans h2,(Only.of hW).trans h3⟩
    (try simp only [Act.put,List.setIfInBounds_toArray,List.set_cons_zero,List.set_cons_succ])
    refine segTold rfl (by decide) rfl ?_ ?_
    ·intro b F hF hf d
     have hFc:=hF.cls
     have h9:=hf _ List.mem_cons_self (by rfl) d
     simp [yieldsR,yieldsUpon,go_sem]
     exact ⟨h9,Below.refl _ _⟩
    iterate 2
     (try simp only [Act.put,List.setIfInBounds_toArray,List.set_cons_zero,List.set_cons_succ])
     refine segQuiet rfl rfl ?_
     apply Exists.intro
     refine ⟨fun b F hF hf K hK=>?_,?_⟩
     ·have hFc:=hF.cls
      have h9:=hf _ (List.mem_cons_of_mem _ List.mem_cons_self) (by rfl) w
      simp only [] at h9
      go_big_quiet_op
      first|exact hK|(apply Exists.intro;refine ⟨fun _=>?_,?_⟩;(· fail);exact hK)
    iterate 2
     (try simp only [Act.put,List.setIfInBounds_toArray,List.set_cons_zero,List.set_cons_succ])
     refine segQuiet rfl rfl ?_
     apply Exists.intro
     refine ⟨fun b F hF hf K hK=>?_,?_⟩
     ·have hFc:=hF.cls
      go_big_quiet_op
      first|exact hK|(apply Exists.intro;refine ⟨fun _=>?_,?_⟩;(· fail);exact hK)
    (try simp only [Act.put,List.setIfInBounds_toArray,List.set_cons_zero,List.set_cons_succ])
    refine segEnd ?_
    exact rfl
   ·exact fun x=>rfl
   ·intro w5 xs5 hC5 hf5
    have hC5':TapC w5 wa.heap.size tb NS∧Below wa.heap.size R1 w5∧Only SC R1 w5:=hC5
    have e13:=hf5 _ List.mem_cons_self
    have e14:=hf5 _ (List.mem_cons_of_mem _ List.mem_cons_self)
    simp only [] at e13 e14
    simp only [e13,e14]
    refine from_end 19 rfl ?_
    have HW5:Hid (Want4 w5 g (g+1) (.slice ps0 ns0 cs0) (.slice pt0 nt0 ct0) (.slice ps1 ns1 cs1) (.slice pt1 nt1 ct1) (.slice ps2 ns2 cs2) (.slice pt2 nt2 ct2) (.slice ps3 ns3 cs3) (.slice pt3 nt3 ct3) D0 X0 D1 X1 D2 X2 D3 X3 E0 E1 E2 E3):=HW.out.only hC5'.2.2 (by decide) (by decide) (by decide) (by decide)
    have HB5:Hid (Below w.heap.size w w5):=HJ.out.2.2.2.2.2.trans (hC5'.2.1.mono HBa.out.size)
    have qc:=cells_at HW5.out.1.2 1 _ rfl
    have qz:=heap_lt HW5.out.1.2
    by_cases hE:E1=0
    case neg=>
     have hE':(E1 != 0)=true:=by simpa using hE
     have eNS:NS=ns:=hop.2.2 hE
     subst eNS
     have HJ5:Hid (TapC w5 wa.heap.size tb NS∧NodesG NS∧NS[0]?=some ⟨1,-1,-1,0,d,x⟩∧NS[1]?=some ⟨1,-1,-1,0,d',y⟩∧(NS.length:Int)≤(2:Int)+2∧Below w.heap.size w w5):=⟨hC5'.1,HJ.out.2.1,HJ.out.2.2.1,HJ.out.2.2.2.1,by have:=HJ.out.2.2.2.2.1;omega,HB5.out⟩
     clear hC5 hC5' hf5 e13 e14 hop hE CD HJ
     go_wp2
     go_roundg 2
     case measure=>omega
     case rel=>exact ⟨2,_,by omega,by omega,by decide,rfl,HJ5,HW5⟩
    obtain ⟨eRR,eNS⟩:=hop.2.1 hE
    subst hE eRR eNS
    have HN5:Hid (NodesG (ns++[⟨5,0,-1,k,D1,X1⟩])):=hGn
    have HJ5:Hid (TapC w5 wa.heap.size tb (ns++[(⟨5,0,-1,k,D1,X1⟩:Nd)])∧NodesG (ns++[(⟨5,0,-1,k,D1,X1⟩:Nd)])∧(ns++[(⟨5,0,-1,k,D1,X1⟩:Nd)])[0]?=some ⟨1,-1,-1,0,d,x⟩∧(ns++[(⟨5,0,-1,k,D1,X1⟩:Nd)])[1]?=some ⟨1,-1,-1,0,d',y⟩∧((ns++[(⟨5,0,-1,k,D1,X1⟩:Nd)]).length:Int)≤(2:Int)+2∧Below w.heap.size w w5):=⟨hC5'.1,HN5.out,(List.getElem?_append_left (by have:=(List.getElem?_eq_some_iff.1 HJ.out.2.2.1).1;omega)).trans HJ.out.2.2.1,(List.getElem?_append_left (List.getElem?_eq_some_iff.1 HJ.out.2.2.2.1).1).trans HJ.out.2.2.2.1,by have:=HJ.out.2.2.2.2.1;simp;omega,HB5.out⟩
    have hnd:(ns++[⟨5,0,-1,k,D1,X1⟩])[ns.length]?=some ⟨5,0,-1,k,D1,X1⟩:=by simp
    have HF5:=few_g (HN5.out _ (nd_mem hnd))
    clear hC5 hC5' hf5 e13 e14 hop hGn CD HJ
    go_wp2_with fail
    refine (cvalue_any wa.heap.size tb _ HN5.out ns.length _ hnd w5 HJ5.out.1).mono ?_
    rintro e w6 ⟨v6,rfl,⟨s6,t6,rfl,hs6,ht6⟩,hB6⟩
    obtain ⟨pa,na,ca,rfl⟩:=hs6.form_
    obtain ⟨pb,nb,cb,rfl⟩:=ht6.form_
    go_wp2_with fail
    refine name_world (fun M hM=>?_)
    have hL:Below w6.heap.size w6 M:=by rw [hM];exact up_alloc w6 _
    have hBM:Below w5.heap.size w5 M:=bstep hB6 hL
    have HXm:Cel M w6.heap.size (.slice pa na ca) (.slice pb nb cb):=by rw [hM];exact new_cel (heap_alloc_new _ _)
    have HWm:Hid (Want4 M g (g+1) (.slice ps0 ns0 cs0) (.slice pt0 nt0 ct0) (.slice ps1 ns1 cs1) (.slice pt1 nt1 ct1) (.slice ps2 ns2 cs2) (.slice pt2 nt2 ct2) (.slice ps3 ns3 cs3) (.slice pt3 nt3 ct3) D0 X0 D1 X1 D2 X2 D3 X3 E0 0 E2 E3):=HW5.out.only (S:=[]) (Only.of hBM) (by simp) (by simp) (by simp) (by simp)
    have HJm:Hid (TapC M wa.heap.size tb (ns++[(⟨5,0,-1,k,D1,X1⟩:Nd)])∧NodesG (ns++[(⟨5,0,-1,k,D1,X1⟩:Nd)])∧(ns++[(⟨5,0,-1,k,D1,X1⟩:Nd)])[0]?=some ⟨1,-1,-1,0,d,x⟩∧(ns++[(⟨5,0,-1,k,D1,X1⟩:Nd)])[1]?=some ⟨1,-1,-1,0,d',y⟩∧((ns++[(⟨5,0,-1,k,D1,X1⟩:Nd)]).length:Int)≤(2:Int)+2∧Below w.heap.size w M):=⟨HJ5.out.1.up hBM,HN5.out,HJ5.out.2.2.1,HJ5.out.2.2.2.1,HJ5.out.2.2.2.2.1,bstep HB5.out hBM⟩
    have HVm:Hid (Tn D1 X1 (.agg #[.slice pa na ca,.slice pb nb cb]) M):=⟨_,_,_,_,_,_,rfl,hs6.nums.up hL,ht6.nums.up hL⟩
    have HUm:Hid (Tn D1 X1 (.agg #[.slice ps1 ns1 cs1,.slice pt1 nt1 ct1]) M):=⟨_,_,_,_,_,_,rfl,HWm.out.2.2.2.1.nums,HWm.out.2.2.2.2.1.nums⟩
    have ck:Hid (∀ W,Below M.heap.size M W→Calls Tryz.prog 18 #[.agg #[.slice pa na ca,.slice pb nb cb],.agg #[.slice ps1 ns1 cs1,.slice pt1 nt1 ct1]] W fun e w'=>e = .returned (.bool true)∧Below W.heap.size W w'):=fun W hW=>by
     have ca:=alike_tn (HVm.out.up hW) (HUm.out.up hW) HF5.1 HF5.2
     rw [decide_eq_true ⟨rfl,rfl⟩] at ca
     exact ca
    obtain ⟨x0,x1,_,_⟩:=HXm
    have y0:=cells_at HWm.out.1.1 2 _ rfl
    have y1:=cells_at HWm.out.1.1 3 _ rfl
    have l0:=cell_lt x0
    have l1:=cell_lt y0
    clear hM hs6 ht6 hB6 hL hBM HJ5 HW5 HN5 HF5 hnd HVm HUm qc qz HB5
    refine rel [] 10 145 (by kernel_rfl) rfl rfl (by kernel_rfl) (by rfl) ?_ ?_
    ·intro e he v W W' h hb
     cases he
    apply Exists.intro
    refine ⟨fun x=>?_,?_,?_⟩
    ·simp only [List.take_succ_cons,List.take_zero]
     iterate 7
      refine relQuiet rfl rfl ?_
      apply Exists.intro
      refine ⟨fun F hF hf K hK=>?_,?_⟩
      ·have hFc:=hF.cell
       have hFf:=hF.frozen
       go_big_quiet_op
       first|exact hK|(apply Exists.intro;refine ⟨fun _=>?_,?_⟩;(· fail);exact hK)
      (try simp only [Act.put,List.setIfInBounds_toArray,List.set_cons_zero,List.set_cons_succ])
     refine relQuiet rfl rfl ?_
     apply Exists.intro
     refine ⟨fun F hF hf K hK=>?_,?_⟩
     ·have hFc:=hF.cell
      have hFf:=hF.frozen
      go_big_quiet_op
      first|exact hK|(apply Exists.intro;refine ⟨fun _=>?_,?_⟩;(· exact hF.call (ck.out _ (hF.below _)));exact hK)
     iterate 2
      (try simp only [Act.put,List.setIfInBounds_toArray,List.set_cons_zero,List.set_cons_succ])
      refine relQuiet rfl rfl ?_
      apply Exists.intro
      refine ⟨fun F hF hf K hK=>?_,?_⟩
      ·have hFc:=hF.cell
       have hFf:=hF.frozen
       go_big_quiet_op
       first|exact hK|(apply Exists.intro;refine ⟨fun _=>?_,?_⟩;(· fail);exact hK)
     (try simp only [Act.put,List.setIfInBounds_toArray,List.set_cons_zero,List.set_cons_succ])
     refine relEnd ?_
     exact rfl
    ·exact fun x=>rfl
    ·intro w9 xs hB9 hf
     simp only [List.drop_succ_cons,List.drop_zero]
     have HW9:Hid (Want4 w9 g (g+1) (.slice ps0 ns0 cs0) (.slice pt0 nt0 ct0) (.slice ps1 ns1 cs1) (.slice pt1 nt1 ct1) (.slice ps2 ns2 cs2) (.slice pt2 nt2 ct2) (.slice ps3 ns3 cs3) (.slice pt3 nt3 ct3) D0 X0 D1 X1 D2 X2 D3 X3 E0 0 E2 E3):=HWm.out.only (S:=[]) (Only.of hB9) (by simp) (by simp) (by simp) (by simp)
     have HJ9:Hid (TapC w9 wa.heap.size tb (ns++[(⟨5,0,-1,k,D1,X1⟩:Nd)])∧NodesG (ns++[(⟨5,0,-1,k,D1,X1⟩:Nd)])∧(ns++[(⟨5,0,-1,k,D1,X1⟩:Nd)])[0]?=some ⟨1,-1,-1,0,d,x⟩∧(ns++[(⟨5,0,-1,k,D1,X1⟩:Nd)])[1]?=some ⟨1,-1,-1,0,d',y⟩∧((ns++[(⟨5,0,-1,k,D1,X1⟩:Nd)]).length:Int)≤(2:Int)+2∧Below w.heap.size w w9):=⟨HJm.out.1.up hB9,HJm.out.2.1,HJm.out.2.2.1,HJm.out.2.2.2.1,HJm.out.2.2.2.2.1,bstep HJm.out.2.2.2.2.2 hB9⟩
     clear hf hB9 ck HWm HJm x0 x1 y0 y1 l0 l1
     go_wp2
     go_roundg 2
     case measure=>omega
     case rel=>exact ⟨2,_,by omega,by omega,by decide,rfl,HJ9,HW9⟩
  ·have hop:=op6 (k:=k) HJ.out.2.2.1 HJ.out.2.2.2.1 (by have:=HJ.out.2.2.2.2.1;omega)
   rw [HE2.out.1,HE2.out.2.1,HE2.out.2.2] at hop
   have hGn:=NodesG.do (op:=6) (a:=0) (b:=1) (k:=k) HJ.out.2.1
   obtain ⟨RR,eR⟩:∃ z,doR ns 6 0 1 k=z:=⟨_,rfl⟩
   obtain ⟨NS,eS⟩:∃ z,doN ns 6 0 1 k=z:=⟨_,rfl⟩
   rw [eR,eS] at hop
   rw [eS] at hGn
   have HBz:Hid (wa.heap.size≤R1.heap.size):=Nat.le_trans HBB.out (Nat.le_of_lt (by obtain ⟨_,_,_,hv,_⟩:=Tap.head HJ.out.1;exact heap_lt hv))
   have CD:Hid (∀ W,Below R1.heap.size R1 W→Calls Tryz.prog 11 #[.pointer (some ⟨tb,0,none⟩),.int .i64 6,.int .i64 0,.int .i64 1,.int .i64 k] W fun e w'=>e = .returned (.tuple #[.int .i64 RR,.int .i64 E2])∧TapC w' wa.heap.size tb NS∧Below wa.heap.size W w'∧Only SC W w'):=fun W hW=>by
    have h:=cdo_any wa.heap.size tb ns HJ.out.2.1 6 0 1 k ⟨by unfold InR;omega,by unfold InR;omega,by unfold InR;omega,HK.out⟩ W (HJ.out.1.up hW) (Hid.up_tz hT (bstep HJ.out.2.2.2.2.2 hW))
    rw [eR,eS,hop.1] at h
    exact h
   clear eR eS hz hz0 hz4
   go_wp2_with fail
   refine from_region (by kernel_rfl) ?_
   refine seg (fun q W=>match q with|false=>Below R1.heap.size R1 W|true=>TapC W wa.heap.size tb NS∧Below wa.heap.size R1 W∧Only SC R1 W) (fun _ _=>True) 13 [⟨13,119,fun v _=>v = .tuple #[.int .i64 RR,.int .i64 E2]⟩,⟨14,105,fun v _=>v = .tuple #[.int .i64 RR,.int .i64 E2]⟩] 0 19 145 rfl rfl (by kernel_rfl) (by rfl) ?_ ?_ ?_ ?_ ?_ ?_
   ·intro q W W' h hb
    cases q
    ·exact bstep h hb
    ·exact ⟨h.1.up hb,h.2.1.trans (hb.mono (Nat.le_trans HBz.out h.2.2.1)),h.2.2.up hb⟩
   ·exact ⟨rfl,rfl,rfl,Nat.le_refl _,fun _ _=>rfl⟩
   ·exact .inl ⟨_,List.mem_cons_self,rfl⟩
   ·intro e he v W W' h hb
    simp only [List.mem_cons,List.not_mem_nil,or_false] at he
    rcases he with rfl|rfl
    ·exact h
    ·exact h
   ·intro e he hne v W W' h hc ht
    simp only [List.mem_cons,List.not_mem_nil,or_false] at he
    rcases he with rfl|rfl
    ·exact h
    ·exact h
   apply Exists.intro
   refine ⟨fun x=>?_,?_,?_⟩
   ·simp only [List.drop_succ_cons,List.drop_zero,List.take_succ_cons,List.take_zero]
    iterate 13
     refine segQuiet rfl rfl ?_
     apply Exists.intro
     refine ⟨fun b F hF hf K hK=>?_,?_⟩
     ·have hFc:=hF.cls
      go_big_quiet_op
      first|exact hK|(apply Exists.intro;refine ⟨fun _=>?_,?_⟩;(· fail);exact hK)
     (try simp only [Act.put,List.setIfInBounds_toArray,List.set_cons_zero,List.set_cons_succ])
    refine segBusy rfl rfl rfl ?_ ?_
    ·intro W hW hf
     simp [leavesR,leavesUpon,go_sem]
     refine (CD.out W hW).mono ?_
     rintro e' w6 ⟨rfl,h1,h2,h3⟩
     exact ⟨_,rfl,rfl,h1,(hW.mono HBz.out).trans h2,(Only.of hW).trans h3⟩
    (try simp only [Act.put,List.setIfInBounds_toArray,List.set_cons_zero,List.set_cons_succ])
    refine segTold rfl (by decide) rfl ?_ ?_
    ·intro b F hF hf d
     have hFc:=hF.cls
     have h9:=hf _ List.mem_cons_self (by rfl) d
     simp [yieldsR,yieldsUpon,go_sem]
     exact ⟨h9,Below.refl _ _⟩
    iterate 2
     (try simp only [Act.put,List.setIfInBounds_toArray,List.set_cons_zero,List.set_cons_succ])
     refine segQuiet rfl rfl ?_
     apply Exists.intro
     refine ⟨fun b F hF hf K hK=>?_,?_⟩
     ·have hFc:=hF.cls
      have h9:=hf _ (List.mem_cons_of_mem _ List.mem_cons_self) (by rfl) w
      simp only [] at h9
      go_big_quiet_op
      first|exact hK|(apply Exists.intro;refine ⟨fun _=>?_,?_⟩;(· fail);exact hK)
    iterate 2
     (try simp only [Act.put,List.setIfInBounds_toArray,List.set_cons_zero,List.set_cons_succ])
     refine segQuiet rfl rfl ?_
     apply Exists.intro
     refine ⟨fun b F hF hf K hK=>?_,?_⟩
     ·have hFc:=hF.cls
      go_big_quiet_op
      first|exact hK|(apply Exists.intro;refine ⟨fun _=>?_,?_⟩;(· fail);exact hK)
    (try simp only [Act.put,List.setIfInBounds_toArray,List.set_cons_zero,List.set_cons_succ])
    refine segEnd ?_
    exact rfl
   ·exact fun x=>rfl
   ·intro w5 xs5 hC5 hf5
    have hC5':TapC w5 wa.heap.size tb NS∧Below wa.heap.size R1 w5∧Only SC R1 w5:=hC5
    have e13:=hf5 _ List.mem_cons_self
    have e14:=hf5 _ (List.mem_cons_of_mem _ List.mem_cons_self)
    simp only [] at e13 e14
    simp only [e13,e14]
    refine from_end 19 rfl ?_
    have HW5:Hid (Want4 w5 g (g+1) (.slice ps0 ns0 cs0) (.slice pt0 nt0 ct0) (.slice ps1 ns1 cs1) (.slice pt1 nt1 ct1) (.slice ps2 ns2 cs2) (.slice pt2 nt2 ct2) (.slice ps3 ns3 cs3) (.slice pt3 nt3 ct3) D0 X0 D1 X1 D2 X2 D3 X3 E0 E1 E2 E3):=HW.out.only hC5'.2.2 (by decide) (by decide) (by decide) (by decide)
    have HB5:Hid (Below w.heap.size w w5):=HJ.out.2.2.2.2.2.trans (hC5'.2.1.mono HBa.out.size)
    have qc:=cells_at HW5.out.1.2 2 _ rfl
    have qz:=heap_lt HW5.out.1.2
    by_cases hE:E2=0
    case neg=>
     have hE':(E2 != 0)=true:=by simpa using hE
     have eNS:NS=ns:=hop.2.2 hE
     subst eNS
     have HJ5:Hid (TapC w5 wa.heap.size tb NS∧NodesG NS∧NS[0]?=some ⟨1,-1,-1,0,d,x⟩∧NS[1]?=some ⟨1,-1,-1,0,d',y⟩∧(NS.length:Int)≤(3:Int)+2∧Below w.heap.size w w5):=⟨hC5'.1,HJ.out.2.1,HJ.out.2.2.1,HJ.out.2.2.2.1,by have:=HJ.out.2.2.2.2.1;omega,HB5.out⟩
     clear hC5 hC5' hf5 e13 e14 hop hE CD HJ
     go_wp2
     go_roundg 1
     case measure=>omega
     case rel=>exact ⟨3,_,by omega,by omega,by decide,rfl,HJ5,HW5⟩
    obtain ⟨eRR,eNS⟩:=hop.2.1 hE
    subst hE eRR eNS
    have HN5:Hid (NodesG (ns++[⟨6,0,1,0,D2,X2⟩])):=hGn
    have HJ5:Hid (TapC w5 wa.heap.size tb (ns++[(⟨6,0,1,0,D2,X2⟩:Nd)])∧NodesG (ns++[(⟨6,0,1,0,D2,X2⟩:Nd)])∧(ns++[(⟨6,0,1,0,D2,X2⟩:Nd)])[0]?=some ⟨1,-1,-1,0,d,x⟩∧(ns++[(⟨6,0,1,0,D2,X2⟩:Nd)])[1]?=some ⟨1,-1,-1,0,d',y⟩∧((ns++[(⟨6,0,1,0,D2,X2⟩:Nd)]).length:Int)≤(3:Int)+2∧Below w.heap.size w w5):=⟨hC5'.1,HN5.out,(List.getElem?_append_left (by have:=(List.getElem?_eq_some_iff.1 HJ.out.2.2.1).1;omega)).trans HJ.out.2.2.1,(List.getElem?_append_left (List.getElem?_eq_some_iff.1 HJ.out.2.2.2.1).1).trans HJ.out.2.2.2.1,by have:=HJ.out.2.2.2.2.1;simp;omega,HB5.out⟩
    have hnd:(ns++[⟨6,0,1,0,D2,X2⟩])[ns.length]?=some ⟨6,0,1,0,D2,X2⟩:=by simp
    have HF5:=few_g (HN5.out _ (nd_mem hnd))
    clear hC5 hC5' hf5 e13 e14 hop hGn CD HJ
    go_wp2_with fail
    refine (cvalue_any wa.heap.size tb _ HN5.out ns.length _ hnd w5 HJ5.out.1).mono ?_
    rintro e w6 ⟨v6,rfl,⟨s6,t6,rfl,hs6,ht6⟩,hB6⟩
    obtain ⟨pa,na,ca,rfl⟩:=hs6.form_
    obtain ⟨pb,nb,cb,rfl⟩:=ht6.form_
    go_wp2_with fail
    refine name_world (fun M hM=>?_)
    have hL:Below w6.heap.size w6 M:=by rw [hM];exact up_alloc w6 _
    have hBM:Below w5.heap.size w5 M:=bstep hB6 hL
    have HXm:Cel M w6.heap.size (.slice pa na ca) (.slice pb nb cb):=by rw [hM];exact new_cel (heap_alloc_new _ _)
    have HWm:Hid (Want4 M g (g+1) (.slice ps0 ns0 cs0) (.slice pt0 nt0 ct0) (.slice ps1 ns1 cs1) (.slice pt1 nt1 ct1) (.slice ps2 ns2 cs2) (.slice pt2 nt2 ct2) (.slice ps3 ns3 cs3) (.slice pt3 nt3 ct3) D0 X0 D1 X1 D2 X2 D3 X3 E0 E1 0 E3):=HW5.out.only (S:=[]) (Only.of hBM) (by simp) (by simp) (by simp) (by simp)
    have HJm:Hid (TapC M wa.heap.size tb (ns++[(⟨6,0,1,0,D2,X2⟩:Nd)])∧NodesG (ns++[(⟨6,0,1,0,D2,X2⟩:Nd)])∧(ns++[(⟨6,0,1,0,D2,X2⟩:Nd)])[0]?=some ⟨1,-1,-1,0,d,x⟩∧(ns++[(⟨6,0,1,0,D2,X2⟩:Nd)])[1]?=some ⟨1,-1,-1,0,d',y⟩∧((ns++[(⟨6,0,1,0,D2,X2⟩:Nd)]).length:Int)≤(3:Int)+2∧Below w.heap.size w M):=⟨HJ5.out.1.up hBM,HN5.out,HJ5.out.2.2.1,HJ5.out.2.2.2.1,HJ5.out.2.2.2.2.1,bstep HB5.out hBM⟩
    have HVm:Hid (Tn D2 X2 (.agg #[.slice pa na ca,.slice pb nb cb]) M):=⟨_,_,_,_,_,_,rfl,hs6.nums.up hL,ht6.nums.up hL⟩
    have HUm:Hid (Tn D2 X2 (.agg #[.slice ps2 ns2 cs2,.slice pt2 nt2 ct2]) M):=⟨_,_,_,_,_,_,rfl,HWm.out.2.2.2.2.2.1.nums,HWm.out.2.2.2.2.2.2.1.nums⟩
    have ck:Hid (∀ W,Below M.heap.size M W→Calls Tryz.prog 18 #[.agg #[.slice pa na ca,.slice pb nb cb],.agg #[.slice ps2 ns2 cs2,.slice pt2 nt2 ct2]] W fun e w'=>e = .returned (.bool true)∧Below W.heap.size W w'):=fun W hW=>by
     have ca:=alike_tn (HVm.out.up hW) (HUm.out.up hW) HF5.1 HF5.2
     rw [decide_eq_true ⟨rfl,rfl⟩] at ca
     exact ca
    obtain ⟨x0,x1,_,_⟩:=HXm
    have y0:=cells_at HWm.out.1.1 4 _ rfl
    have y1:=cells_at HWm.out.1.1 5 _ rfl
    have l0:=cell_lt x0
    have l1:=cell_lt y0
    clear hM hs6 ht6 hB6 hL hBM HJ5 HW5 HN5 HF5 hnd HVm HUm qc qz HB5
    refine rel [] 10 145 (by kernel_rfl) rfl rfl (by kernel_rfl) (by rfl) ?_ ?_
    ·intro e he v W W' h hb
     cases he
    apply Exists.intro
    refine ⟨fun x=>?_,?_,?_⟩
    ·simp only [List.take_succ_cons,List.take_zero]
     iterate 7
      refine relQuiet rfl rfl ?_
      apply Exists.intro
      refine ⟨fun F hF hf K hK=>?_,?_⟩
      ·have hFc:=hF.cell
       have hFf:=hF.frozen
       go_big_quiet_op
       first|exact hK|(apply Exists.intro;refine ⟨fun _=>?_,?_⟩;(· fail);exact hK)
      (try simp only [Act.put,List.setIfInBounds_toArray,List.set_cons_zero,List.set_cons_succ])
     refine relQuiet rfl rfl ?_
     apply Exists.intro
     refine ⟨fun F hF hf K hK=>?_,?_⟩
     ·have hFc:=hF.cell
      have hFf:=hF.frozen
      go_big_quiet_op
      first|exact hK|(apply Exists.intro;refine ⟨fun _=>?_,?_⟩;(· exact hF.call (ck.out _ (hF.below _)));exact hK)
     iterate 2
      (try simp only [Act.put,List.setIfInBounds_toArray,List.set_cons_zero,List.set_cons_succ])
      refine relQuiet rfl rfl ?_
      apply Exists.intro
      refine ⟨fun F hF hf K hK=>?_,?_⟩
      ·have hFc:=hF.cell
       have hFf:=hF.frozen
       go_big_quiet_op
       first|exact hK|(apply Exists.intro;refine ⟨fun _=>?_,?_⟩;(· fail);exact hK)
     (try simp only [Act.put,List.setIfInBounds_toArray,List.set_cons_zero,List.set_cons_succ])
     refine relEnd ?_
     exact rfl
    ·exact fun x=>rfl
    ·intro w9 xs hB9 hf
     simp only [List.drop_succ_cons,List.drop_zero]
     have HW9:Hid (Want4 w9 g (g+1) (.slice ps0 ns0 cs0) (.slice pt0 nt0 ct0) (.slice ps1 ns1 cs1) (.slice pt1 nt1 ct1) (.slice ps2 ns2 cs2) (.slice pt2 nt2 ct2) (.slice ps3 ns3 cs3) (.slice pt3 nt3 ct3) D0 X0 D1 X1 D2 X2 D3 X3 E0 E1 0 E3):=HWm.out.only (S:=[]) (Only.of hB9) (by simp) (by simp) (by simp) (by simp)
     have HJ9:Hid (TapC w9 wa.heap.size tb (ns++[(⟨6,0,1,0,D2,X2⟩:Nd)])∧NodesG (ns++[(⟨6,0,1,0,D2,X2⟩:Nd)])∧(ns++[(⟨6,0,1,0,D2,X2⟩:Nd)])[0]?=some ⟨1,-1,-1,0,d,x⟩∧(ns++[(⟨6,0,1,0,D2,X2⟩:Nd)])[1]?=some ⟨1,-1,-1,0,d',y⟩∧((ns++[(⟨6,0,1,0,D2,X2⟩:Nd)]).length:Int)≤(3:Int)+2∧Below w.heap.size w w9):=⟨HJm.out.1.up hB9,HJm.out.2.1,HJm.out.2.2.1,HJm.out.2.2.2.1,HJm.out.2.2.2.2.1,bstep HJm.out.2.2.2.2.2 hB9⟩
     clear hf hB9 ck HWm HJm x0 x1 y0 y1 l0 l1
     go_wp2
     go_roundg 1
     case measure=>omega
     case rel=>exact ⟨3,_,by omega,by omega,by decide,rfl,HJ9,HW9⟩
  ·have hop:=op7 (k:=k) HJ.out.2.2.1 HJ.out.2.2.2.1 (by have:=HJ.out.2.2.2.2.1;omega)
   rw [HE3.out.1,HE3.out.2.1,HE3.out.2.2] at hop
   have hGn:=NodesG.do (op:=7) (a:=1) (b:=1) (k:=k) HJ.out.2.1
   obtain ⟨RR,eR⟩:∃ z,doR ns 7 1 1 k=z:=⟨_,rfl⟩
   obtain ⟨NS,eS⟩:∃ z,doN ns 7 1 1 k=z:=⟨_,rfl⟩
   rw [eR,eS] at hop
   rw [eS] at hGn
   have HBz:Hid (wa.heap.size≤R1.heap.size):=Nat.le_trans HBB.out (Nat.le_of_lt (by obtain ⟨_,_,_,hv,_⟩:=Tap.head HJ.out.1;exact heap_lt hv))
   have CD:Hid (∀ W,Below R1.heap.size R1 W→Calls Tryz.prog 11 #[.pointer (some ⟨tb,0,none⟩),.int .i64 7,.int .i64 1,.int .i64 1,.int .i64 k] W fun e w'=>e = .returned (.tuple #[.int .i64 RR,.int .i64 E3])∧TapC w' wa.heap.size tb NS∧Below wa.heap.size W w'∧Only SC W w'):=fun W hW=>by
    have h:=cdo_any wa.heap.size tb ns HJ.out.2.1 7 1 1 k ⟨by unfold InR;omega,by unfold InR;omega,by unfold InR;omega,HK.out⟩ W (HJ.out.1.up hW) (Hid.up_tz hT (bstep HJ.out.2.2.2.2.2 hW))
    rw [eR,eS,hop.1] at h
    exact h
   clear eR eS hz hz0 hz4
   go_wp2_with fail
   refine from_region (by kernel_rfl) ?_
   refine seg (fun q W=>match q with|false=>Below R1.heap.size R1 W|true=>TapC W wa.heap.size tb NS∧Below wa.heap.size R1 W∧Only SC R1 W) (fun _ _=>True) 13 [⟨13,119,fun v _=>v = .tuple #[.int .i64 RR,.int .i64 E3]⟩,⟨14,105,fun v _=>v = .tuple #[.int .i64 RR,.int .i64 E3]⟩] 0 19 145 rfl rfl (by kernel_rfl) (by rfl) ?_ ?_ ?_ ?_ ?_ ?_
   ·intro q W W' h hb
    cases q
    ·exact bstep h hb
    ·exact ⟨h.1.up hb,h.2.1.trans (hb.mono (Nat.le_trans HBz.out h.2.2.1)),h.2.2.up hb⟩
   ·exact ⟨rfl,rfl,rfl,Nat.le_refl _,fun _ _=>rfl⟩
   ·exact .inl ⟨_,List.mem_cons_self,rfl⟩
   ·intro e he v W W' h hb
    simp only [List.mem_cons,List.not_mem_nil,or_false] at he
    rcases he with rfl|rfl
    ·exact h
    ·exact h
   ·intro e he hne v W W' h hc ht
    simp only [List.mem_cons,List.not_mem_nil,or_false] at he
    rcases he with rfl|rfl
    ·exact h
    ·exact h
   apply Exists.intro
   refine ⟨fun x=>?_,?_,?_⟩
   ·simp only [List.drop_succ_cons,List.drop_zero,List.take_succ_cons,List.take_zero]
    iterate 13
     refine segQuiet rfl rfl ?_
     apply Exists.intro
     refine ⟨fun b F hF hf K hK=>?_,?_⟩
     ·have hFc:=hF.cls
      go_big_quiet_op
      first|exact hK|(apply Exists.intro;refine ⟨fun _=>?_,?_⟩;(· fail);exact hK)
     (try simp only [Act.put,List.setIfInBounds_toArray,List.set_cons_zero,List.set_cons_succ])
    refine segBusy rfl rfl rfl ?_ ?_
    ·intro W hW hf
     simp [leavesR,leavesUpon,go_sem]
     refine (CD.out W hW).mono ?_
     rintro e' w6 ⟨rfl,h1,h2,h3⟩
     exact ⟨_,rfl,rfl,h1,(hW.mono HBz.out).trans h2,(Only.of hW).trans h3⟩
    (try simp only [Act.put,List.setIfInBounds_toArray,List.set_cons_zero,List.set_cons_succ])
    refine segTold rfl (by decide) rfl ?_ ?_
    ·intro b F hF hf d
     have hFc:=hF.cls
     have h9:=hf _ List.mem_cons_self (by rfl) d
     simp [yieldsR,yieldsUpon,go_sem]
     exact ⟨h9,Below.refl _ _⟩
    iterate 2
     (try simp only [Act.put,List.setIfInBounds_toArray,List.set_cons_zero,List.set_cons_succ])
     refine segQuiet rfl rfl ?_
     apply Exists.intro
     refine ⟨fun b F hF hf K hK=>?_,?_⟩
     ·have hFc:=hF.cls
      have h9:=hf _ (List.mem_cons_of_mem _ List.mem_cons_self) (by rfl) w
      simp only [] at h9
      go_big_quiet_op
      first|exact hK|(apply Exists.intro;refine ⟨fun _=>?_,?_⟩;(· fail);exact hK)
    iterate 2
     (try simp only [Act.put,List.setIfInBounds_toArray,List.set_cons_zero,List.set_cons_succ])
     refine segQuiet rfl rfl ?_
     apply Exists.intro
     refine ⟨fun b F hF hf K hK=>?_,?_⟩
     ·have hFc:=hF.cls
      go_big_quiet_op
      first|exact hK|(apply Exists.intro;refine ⟨fun _=>?_,?_⟩;(· fail);exact hK)
    (try simp only [Act.put,List.setIfInBounds_toArray,List.set_cons_zero,List.set_cons_succ])
    refine segEnd ?_
    exact rfl
   ·exact fun x=>rfl
   ·intro w5 xs5 hC5 hf5
    have hC5':TapC w5 wa.heap.size tb NS∧Below wa.heap.size R1 w5∧Only SC R1 w5:=hC5
    have e13:=hf5 _ List.mem_cons_self
    have e14:=hf5 _ (List.mem_cons_of_mem _ List.mem_cons_self)
    simp only [] at e13 e14
    simp only [e13,e14]
    refine from_end 19 rfl ?_
    have HW5:Hid (Want4 w5 g (g+1) (.slice ps0 ns0 cs0) (.slice pt0 nt0 ct0) (.slice ps1 ns1 cs1) (.slice pt1 nt1 ct1) (.slice ps2 ns2 cs2) (.slice pt2 nt2 ct2) (.slice ps3 ns3 cs3) (.slice pt3 nt3 ct3) D0 X0 D1 X1 D2 X2 D3 X3 E0 E1 E2 E3):=HW.out.only hC5'.2.2 (by decide) (by decide) (by decide) (by decide)
    have HB5:Hid (Below w.heap.size w w5):=HJ.out.2.2.2.2.2.trans (hC5'.2.1.mono HBa.out.size)
    have qc:=cells_at HW5.out.1.2 3 _ rfl
    have qz:=heap_lt HW5.out.1.2
    by_cases hE:E3=0
    case neg=>
     have hE':(E3 != 0)=true:=by simpa using hE
     have eNS:NS=ns:=hop.2.2 hE
     subst eNS
     have HJ5:Hid (TapC w5 wa.heap.size tb NS∧NodesG NS∧NS[0]?=some ⟨1,-1,-1,0,d,x⟩∧NS[1]?=some ⟨1,-1,-1,0,d',y⟩∧(NS.length:Int)≤(4:Int)+2∧Below w.heap.size w w5):=⟨hC5'.1,HJ.out.2.1,HJ.out.2.2.1,HJ.out.2.2.2.1,by have:=HJ.out.2.2.2.2.1;omega,HB5.out⟩
     clear hC5 hC5' hf5 e13 e14 hop hE CD HJ
     go_wp2
     go_roundg 0
     case measure=>omega
     case rel=>exact ⟨4,_,by omega,by omega,by decide,rfl,HJ5,HW5⟩
    obtain ⟨eRR,eNS⟩:=hop.2.1 hE
    subst hE eRR eNS
    have HN5:Hid (NodesG (ns++[⟨7,1,-1,0,D3,X3⟩])):=hGn
    have HJ5:Hid (TapC w5 wa.heap.size tb (ns++[(⟨7,1,-1,0,D3,X3⟩:Nd)])∧NodesG (ns++[(⟨7,1,-1,0,D3,X3⟩:Nd)])∧(ns++[(⟨7,1,-1,0,D3,X3⟩:Nd)])[0]?=some ⟨1,-1,-1,0,d,x⟩∧(ns++[(⟨7,1,-1,0,D3,X3⟩:Nd)])[1]?=some ⟨1,-1,-1,0,d',y⟩∧((ns++[(⟨7,1,-1,0,D3,X3⟩:Nd)]).length:Int)≤(4:Int)+2∧Below w.heap.size w w5):=⟨hC5'.1,HN5.out,(List.getElem?_append_left (by have:=(List.getElem?_eq_some_iff.1 HJ.out.2.2.1).1;omega)).trans HJ.out.2.2.1,(List.getElem?_append_left (List.getElem?_eq_some_iff.1 HJ.out.2.2.2.1).1).trans HJ.out.2.2.2.1,by have:=HJ.out.2.2.2.2.1;simp;omega,HB5.out⟩
    have hnd:(ns++[⟨7,1,-1,0,D3,X3⟩])[ns.length]?=some ⟨7,1,-1,0,D3,X3⟩:=by simp
    have HF5:=few_g (HN5.out _ (nd_mem hnd))
    clear hC5 hC5' hf5 e13 e14 hop hGn CD HJ
    go_wp2_with fail
    refine (cvalue_any wa.heap.size tb _ HN5.out ns.length _ hnd w5 HJ5.out.1).mono ?_
    rintro e w6 ⟨v6,rfl,⟨s6,t6,rfl,hs6,ht6⟩,hB6⟩
    obtain ⟨pa,na,ca,rfl⟩:=hs6.form_
    obtain ⟨pb,nb,cb,rfl⟩:=ht6.form_
    go_wp2_with fail
    refine name_world (fun M hM=>?_)
    have hL:Below w6.heap.size w6 M:=by rw [hM];exact up_alloc w6 _
    have hBM:Below w5.heap.size w5 M:=bstep hB6 hL
    have HXm:Cel M w6.heap.size (.slice pa na ca) (.slice pb nb cb):=by rw [hM];exact new_cel (heap_alloc_new _ _)
    have HWm:Hid (Want4 M g (g+1) (.slice ps0 ns0 cs0) (.slice pt0 nt0 ct0) (.slice ps1 ns1 cs1) (.slice pt1 nt1 ct1) (.slice ps2 ns2 cs2) (.slice pt2 nt2 ct2) (.slice ps3 ns3 cs3) (.slice pt3 nt3 ct3) D0 X0 D1 X1 D2 X2 D3 X3 E0 E1 E2 0):=HW5.out.only (S:=[]) (Only.of hBM) (by simp) (by simp) (by simp) (by simp)
    have HJm:Hid (TapC M wa.heap.size tb (ns++[(⟨7,1,-1,0,D3,X3⟩:Nd)])∧NodesG (ns++[(⟨7,1,-1,0,D3,X3⟩:Nd)])∧(ns++[(⟨7,1,-1,0,D3,X3⟩:Nd)])[0]?=some ⟨1,-1,-1,0,d,x⟩∧(ns++[(⟨7,1,-1,0,D3,X3⟩:Nd)])[1]?=some ⟨1,-1,-1,0,d',y⟩∧((ns++[(⟨7,1,-1,0,D3,X3⟩:Nd)]).length:Int)≤(4:Int)+2∧Below w.heap.size w M):=⟨HJ5.out.1.up hBM,HN5.out,HJ5.out.2.2.1,HJ5.out.2.2.2.1,HJ5.out.2.2.2.2.1,bstep HB5.out hBM⟩
    have HVm:Hid (Tn D3 X3 (.agg #[.slice pa na ca,.slice pb nb cb]) M):=⟨_,_,_,_,_,_,rfl,hs6.nums.up hL,ht6.nums.up hL⟩
    have HUm:Hid (Tn D3 X3 (.agg #[.slice ps3 ns3 cs3,.slice pt3 nt3 ct3]) M):=⟨_,_,_,_,_,_,rfl,HWm.out.2.2.2.2.2.2.2.1.nums,HWm.out.2.2.2.2.2.2.2.2.nums⟩
    have ck:Hid (∀ W,Below M.heap.size M W→Calls Tryz.prog 18 #[.agg #[.slice pa na ca,.slice pb nb cb],.agg #[.slice ps3 ns3 cs3,.slice pt3 nt3 ct3]] W fun e w'=>e = .returned (.bool true)∧Below W.heap.size W w'):=fun W hW=>by
     have ca:=alike_tn (HVm.out.up hW) (HUm.out.up hW) HF5.1 HF5.2
     rw [decide_eq_true ⟨rfl,rfl⟩] at ca
     exact ca
    obtain ⟨x0,x1,_,_⟩:=HXm
    have y0:=cells_at HWm.out.1.1 6 _ rfl
    have y1:=cells_at HWm.out.1.1 7 _ rfl
    have l0:=cell_lt x0
    have l1:=cell_lt y0
    clear hM hs6 ht6 hB6 hL hBM HJ5 HW5 HN5 HF5 hnd HVm HUm qc qz HB5
    refine rel [] 10 145 (by kernel_rfl) rfl rfl (by kernel_rfl) (by rfl) ?_ ?_
    ·intro e he v W W' h hb
     cases he
    apply Exists.intro
    refine ⟨fun x=>?_,?_,?_⟩
    ·simp only [List.take_succ_cons,List.take_zero]
     iterate 7
      refine relQuiet rfl rfl ?_
      apply Exists.intro
      refine ⟨fun F hF hf K hK=>?_,?_⟩
      ·have hFc:=hF.cell
       have hFf:=hF.frozen
       go_big_quiet_op
       first|exact hK|(apply Exists.intro;refine ⟨fun _=>?_,?_⟩;(· fail);exact hK)
      (try simp only [Act.put,List.setIfInBounds_toArray,List.set_cons_zero,List.set_cons_succ])
     refine relQuiet rfl rfl ?_
     apply Exists.intro
     refine ⟨fun F hF hf K hK=>?_,?_⟩
     ·have hFc:=hF.cell
      have hFf:=hF.frozen
      go_big_quiet_op
      first|exact hK|(apply Exists.intro;refine ⟨fun _=>?_,?_⟩;(· exact hF.call (ck.out _ (hF.below _)));exact hK)
     iterate 2
      (try simp only [Act.put,List.setIfInBounds_toArray,List.set_cons_zero,List.set_cons_succ])
      refine relQuiet rfl rfl ?_
      apply Exists.intro
      refine ⟨fun F hF hf K hK=>?_,?_⟩
      ·have hFc:=hF.cell
       have hFf:=hF.frozen
       go_big_quiet_op
       first|exact hK|(apply Exists.intro;refine ⟨fun _=>?_,?_⟩;(· fail);exact hK)
     (try simp only [Act.put,List.setIfInBounds_toArray,List.set_cons_zero,List.set_cons_succ])
     refine relEnd ?_
     exact rfl
    ·exact fun x=>rfl
    ·intro w9 xs hB9 hf
     simp only [List.drop_succ_cons,List.drop_zero]
     have HW9:Hid (Want4 w9 g (g+1) (.slice ps0 ns0 cs0) (.slice pt0 nt0 ct0) (.slice ps1 ns1 cs1) (.slice pt1 nt1 ct1) (.slice ps2 ns2 cs2) (.slice pt2 nt2 ct2) (.slice ps3 ns3 cs3) (.slice pt3 nt3 ct3) D0 X0 D1 X1 D2 X2 D3 X3 E0 E1 E2 0):=HWm.out.only (S:=[]) (Only.of hB9) (by simp) (by simp) (by simp) (by simp)
     have HJ9:Hid (TapC w9 wa.heap.size tb (ns++[(⟨7,1,-1,0,D3,X3⟩:Nd)])∧NodesG (ns++[(⟨7,1,-1,0,D3,X3⟩:Nd)])∧(ns++[(⟨7,1,-1,0,D3,X3⟩:Nd)])[0]?=some ⟨1,-1,-1,0,d,x⟩∧(ns++[(⟨7,1,-1,0,D3,X3⟩:Nd)])[1]?=some ⟨1,-1,-1,0,d',y⟩∧((ns++[(⟨7,1,-1,0,D3,X3⟩:Nd)]).length:Int)≤(4:Int)+2∧Below w.heap.size w w9):=⟨HJm.out.1.up hB9,HJm.out.2.1,HJm.out.2.2.1,HJm.out.2.2.2.1,HJm.out.2.2.2.2.1,bstep HJm.out.2.2.2.2.2 hB9⟩
     clear hf hB9 ck HWm HJm x0 x1 y0 y1 l0 l1
     go_wp2
     go_roundg 0
     case measure=>omega
     case rel=>exact ⟨4,_,by omega,by omega,by decide,rfl,HJ9,HW9⟩
end Go.Proofs.YtlhpmjcdkpfjdaaGreatDoor.Wd
namespace Go.Proofs.YtlhpmjcdkpfjdaaGreatDoor.Wd
open Go.ChangeShapes Go.WideShapes Go.ChangeAt Go.RowKit Go.Joins Go.Deep
set_option linter.unusedVariables false
set_option linter.unusedSimpArgs false
theorem open_tens {H:Type} {enc:TypeId×Value→H} {P:Program} {W:World} {r:Reach} {b0:Nat} {t e0 e1:TypeId} {f0 f1:Field} {k0 k1:IntKind} {v:Value} {d:DataW H} {ps:List MemPlace}
  (hs:P.underlying t=some (.struct #[f0,f1])) (hone:oneCellFields P #[f0,f1]=true) (hC:P.cellsOf t=2)
  (t0:P.underlying f0.type=some (.slice e0)) (u0:P.underlying e0=some (.int k0)) (c0:P.cellsOf e0=1) (t1:P.underlying f1.type=some (.slice e1)) (u1:P.underlying e1=some (.int k1)) (c1:P.cellsOf e1=1)
  (hv:Value.okWide P W r b0 t v) (h:DataW.Trod enc P W 0 (fun _=>true) true t v d ps):
  ∃ (a:Option Addr) (n c:Nat) (z:Nat→Int) (a':Option Addr) (n' c':Nat) (z':Nat→Int),v = .agg #[.slice a n c,.slice a' n' c']∧RowN k0 W a n c z∧RowN k1 W a' n' c' z':=by
 obtain ⟨v0,v1,y0,y1,m,rfl,_,_,h0,h1⟩:=open_agg2 hs hone hC hv h
 have s0:∃ a n c,v0 = .slice a n c:=by
  rcases open_ints t0 u0 c0 h0 with ⟨e,_⟩|⟨x,l,c',zs,e,_⟩
  ·simp at e;exact ⟨_,_,_,e⟩
  ·simp at e;exact ⟨_,_,_,e⟩
 have s1:∃ a n c,v1 = .slice a n c:=by
  rcases open_ints t1 u1 c1 h1 with ⟨e,_⟩|⟨x,l,c',zs,e,_⟩
  ·simp at e;exact ⟨_,_,_,e⟩
  ·simp at e;exact ⟨_,_,_,e⟩
 obtain ⟨a,n,c,rfl⟩:=s0
 obtain ⟨a',n',c',rfl⟩:=s1
 obtain ⟨z,hz⟩:=open_rowN (d:=y0.1) (ps:=y0.2) t0 u0 c0 ⟨m,h0⟩
 obtain ⟨z',hz'⟩:=open_rowN (d:=y1.1) (ps:=y1.2) t1 u1 c1 ⟨m,h1⟩
 exact ⟨a,n,c,z,a',n',c',z',rfl,hz,hz'⟩
end Go.Proofs.YtlhpmjcdkpfjdaaGreatDoor.Wd
