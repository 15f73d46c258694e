/- The code's reading of texts: words, numbersAhead, layerOf. · The contracts of the library functions that the program calls, stated at this program's own numbers: each is one application of a theorem of the kit's library. · A region that draws its order, cut into segments: what stands behind a cut waits for all ahead of it; in a segment at most one operation writes what stood (a call of any kind), the others read, call or make memory; each segment is walked once, in the order of the text. · The contracts of the library functions that the program calls, stated at this program's own numbers: each -/
import Derived.Test.YtiampagapgjedaaGreatDoorP04
import Derived.Laws.CopyOwn
import Derived.Shelf.Strings.Builder1
import Derived.Shelf.Strings.Builder2
import Derived.Shelf.Strings.OnBuilder
import Derived.Shelf.Small.Bits
import Derived.Shelf.Strings.BuilderF
import Derived.Shelf.Strconv.Itoa0
import Derived.Shelf.Strconv.Itoa1
import Derived.Shelf.LaysM
import Derived.Shelf.Strconv.Itoa2
import Derived.Shelf.Strconv.Itoa3
import Derived.Shelf.Bits.Mul64
import Derived.Shelf.Strings.FieldsFuncAny
import Derived.Shelf.Slices.Equal
import Derived.Ground.Names2Prog
import Derived.Shelf.Slices.Clone
import Derived.Shelf.Slices.Empties2
import Derived.Test.YtiampagapgjedaaGreatDoorProg
import Derived.Test.YtiampagapgjedaaGreatDoorP01
import Derived.Test.YtiampagapgjedaaGreatDoorP02
import Derived.WalkKit
import Derived.ProofKit
import Derived.WalkSpells
set_option linter.unusedVariables false
set_option linter.unusedSimpArgs false
set_option maxHeartbeats 16000000
set_option maxRecDepth 16000
namespace Go.Proofs.YtiampagapgjedaaGreatDoor.Wd
open Go.RowKit
def wdA (ws:List ByteArray) (i:Nat):ByteArray:=ws.getD i ⟨#[]⟩
/-- A slice of words. -/
def StrV (W:World) (v:Value) (ws:List ByteArray):Prop:=∃ p c,v = .slice p ws.length c∧ws.length≤c∧∀ i,i < ws.length→∃ q o,p=some ⟨q,o,none⟩∧W.cell? ⟨q,o+i,none⟩=some (.string (wdA ws i))
theorem StrV.up {W W':World} {v:Value} {ws:List ByteArray} (h:StrV W v ws) (hB:Below W.heap.size W W'):StrV W' v ws:=by
 obtain ⟨p,c,e,hc,h⟩:=h
 exact ⟨p,c,e,hc,fun i hi=>by
  obtain ⟨q,o,e,h⟩:=h i hi
  exact ⟨q,o,e,still_cell hB h⟩⟩
theorem cutS_run (p:Option Addr) (n cap:Nat) (h:1≤n) (W:World):Sem.run Tryz.prog (Instr.slice 83 (.slice p n cap) (some (.int .i64 1)) none none) W = .ok (sliced p 1 n cap 1) W:=by
 have hz:∀ W,Sem.run Tryz.prog (sizeOf (Tryz.prog.elem 83)) W = .ok 1 W:=fun W=>by kernel_rfl
 have:=run_slice_l (P:=Tryz.prog) W 83 p n cap (by kernel_rfl) .i64 1 (by omega) (by omega)
 rw [this,hz]
 simp [Result.andThen]
theorem cutS {W:World} {p:Option Addr} {n cap:Nat} {x:ByteArray} {ws:List ByteArray} (h:StrV W (.slice p n cap) (x :: ws)):∃ p' n' c',sliced p 1 n cap 1 = .slice p' n' c'∧StrV W (.slice p' n' c') ws:=by
 obtain ⟨p0,c0,e,hc,h⟩:=h
 cases e
 refine ⟨_,_,_,rfl,(if cap=1 then p else p.map (·.add (1*1))),cap - 1,by simp,by simp only [List.length_cons] at hc;omega,fun i hi=>?_⟩
 obtain ⟨q,o,e,hx⟩:=h (i+1) (by simp only [List.length_cons];omega)
 obtain ⟨q0,o0,e0,_⟩:=h 0 (by simp)
 subst e0
 cases e
 simp only [List.length_cons] at hc
 refine ⟨q,o+1,?_,?_⟩
 ·rw [if_neg (by omega)]
  simp [addr_plus]
 ·rw [show o+1+i=o+(i+1) by omega]
  exact hx
theorem StrV.form {W:World} {v:Value} {ws:List ByteArray} (h:StrV W v ws):∃ p n c,v = .slice p n c∧ws.length=n:=by
 obtain ⟨p,c,e,_⟩:=h
 exact ⟨p,_,c,e,rfl⟩
theorem numbersAhead_any (v:Value) (ws:List ByteArray) (m:Nat) (hm:m≤2) (wB w:World) (hB:Below wB.heap.size wB w) (hv:StrV wB v ws):
  Calls Tryz.prog 59 #[v,.int .i64 (m:Int)] w fun e w'=>∃ v1 v2,e = .returned (.tuple #[v1,v2])∧OwnK .i64 3 w' w.heap.size v1 (numsA ws m).1∧StrV wB v2 (numsA ws m).2∧Below w.heap.size w w':=by
 obtain ⟨p0,n0,c0,rfl,hn0⟩:=hv.form
 have HV:Hid (StrV wB (.slice p0 n0 c0) ws):=hv
 have HWB:Hid (Below wB.heap.size wB w):=hB
 obtain ⟨R,eR⟩:∃ R,numsA ws m=R:=⟨_,rfl⟩
 have HR:Hid (numsA ws m=R):=eR
 rw [eR]
 clear eR hv hB
 have hm2:(m:Int)≤2:=by omega
 go_enter Tryz.func59,Tryz.ntmps59
 go_wp2_with fail
 go_loopg [0,6] n0 (fun gg u v wr=>∃ (us:List ByteArray) (acc:List Int),gg=us.length∧Hid (StrV wB u us∧OwnK .i64 3 wr w.heap.size v acc∧Below w.heap.size w wr)∧acc.length≤m∧Hid (R=(acc++(numsA us (m - acc.length)).1,(numsA us (m - acc.length)).2)))
 case atStart=>exact ⟨ws,[],hn0.symm,⟨HV.out,OwnK.nil _ _ _ _,Below.refl _ _⟩,by simp,by show _=_;rw [← HR.out];simp⟩
 case round=>
  obtain ⟨us,acc,hg,HI,hacc,HE⟩:=hrel
  obtain ⟨pu,nu,cu,rfl,hnu⟩:=HI.out.1.form
  obtain ⟨pa,na,ca,rfl,HCa⟩:=HI.out.2.1.nums.lst
  have hna:=HCa.out.1
  clear HCa
  cases us with
  | nil=>
   obtain rfl:nu=0:=by simpa using hnu.symm
   have eR:R=(acc,[]):=by rw [HE.out];simp [numsA]
   subst eR
   go_wp2
   go_ret2
   exact ⟨_,_,rfl,HI.out.2.1,HI.out.1,HI.out.2.2⟩
  | cons u us=>
   obtain rfl:nu=us.length+1:=by simpa using hnu.symm
   have hnu0:(0:Int) < ((us.length+1:Nat):Int):=by omega
   by_cases ham:acc.length < m
   case neg=>
    have hna':(m:Int)≤(na:Int):=by omega
    have eR:R=(acc,u :: us):=by rw [HE.out,show m - acc.length=0 by omega,numsA_zero];simp
    subst eR
    go_wp2
    go_ret2
    exact ⟨_,_,rfl,HI.out.2.1,HI.out.1,HI.out.2.2⟩
   have hna':(na:Int) < (m:Int):=by omega
   obtain ⟨pp,cc,e,hcc,hcell⟩:=HI.out.1.up (bstep HWB.out HI.out.2.2)
   cases e
   obtain ⟨q,o,rfl,h0⟩:=hcell 0 (by simp)
   rw [Nat.add_zero] at h0
   have h00:wr.cell? ⟨q,o,none⟩=some (.string u):=h0
   clear h0 hcell
   obtain ⟨p',n',c',es,hcut⟩:=cutS HI.out.1
   have hrun:=cutS_run (some ⟨q,o,none⟩) (us.length+1) cu (by omega)
   rw [es] at hrun
   have HCut:Hid (StrV wB (.slice p' n' c') us):=hcut
   clear hcut es
   have cn:=numberOf_any u wr
   obtain ⟨x,ex⟩:∃ x,numB u=x:=⟨_,rfl⟩
   rw [ex] at cn
   cases x with
   | none=>
    have eR:R=(acc,u :: us):=by rw [HE.out,show m - acc.length=m - acc.length - 1+1 by omega,numsA_none ex];simp
    subst eR
    simp only [Option.getD_none,Option.isSome_none] at cn
    clear ex
    go_wp2_with fail
    refine cn.mono ?_
    rintro e w1 ⟨rfl,rfl⟩
    clear cn
    go_wp2
    go_ret2
    exact ⟨_,_,rfl,HI.out.2.1,HI.out.1,HI.out.2.2⟩
   | some x=>
    have HE2:Hid (R=((acc++[x])++(numsA us (m - (acc++[x]).length)).1,(numsA us (m - (acc++[x]).length)).2)):=by
     show _=_
     rw [HE.out,show m - acc.length=m - (acc++[x]).length+1 by simp;omega,numsA_some ex]
     simp
    simp only [Option.getD_some,Option.isSome_some] at cn
    clear ex HE
    go_wp2_with fail
    refine cn.mono ?_
    rintro e w1 ⟨rfl,rfl⟩
    clear cn
    have H5:Hid (OwnK .i64 3 (w1.alloc (.cells #[.int .i64 x] 3)) w.heap.size (.slice pa na ca) acc):=HI.out.2.1.up (up_alloc w1 _)
    have H6:Hid (Nums .i64 (w1.alloc (.cells #[.int .i64 x] 3)) (.slice (some ⟨w1.heap.size,0,none⟩) 1 1) [x]):=nums_lit (k:=.i64) w1 [x] 1 (0,0) rfl
    have H7:Hid (acc.length+[x].length≤1073741824):=by show _≤_;simp;omega
    have H8:Hid (w.heap.size≤(w1.alloc (.cells #[.int .i64 x] 3)).heap.size):=by show _≤_;have:=HI.out.2.2.size;simp;omega
    have H9:Hid (Below w1.heap.size w1 (w1.alloc (.cells #[.int .i64 x] 3))):=up_alloc w1 _
    have H10:Hid (Below w.heap.size w (w1.alloc (.cells #[.int .i64 x] 3))):=blit HI.out.2.2 _
    clear HI h00
    go_wp2_with (at_builtin;refine wpList_appendK numT (by decide) rfl (.tmp 27) (.tmp 29) rfl w.heap.size _ acc rfl H5.out _ [x] rfl H6.out H7.out H8.out w H10.out ?_;intro v0 w0 H0 B0)
    have HF:Hid (StrV wB (.slice p' n' c') us∧OwnK .i64 3 w0 w.heap.size v0 (acc++[x])∧Below w.heap.size w w0):=⟨HCut.out,H0.out,B0⟩
    clear HCut H0 B0 H5 H6 H7 H8 H9 H10
    go_wp2
    go_roundg us.length
    case measure=>rw [hg];simp
    case rel=>exact ⟨us,acc++[x],rfl,HF,by simp;omega,HE2⟩
theorem box_3 {W:World} {b:Nat} {v0 v1 v2:Value} {e:TypeId} (h:W.heap[b]?=some (.cells #[v0,v1,v2] e (0,0))):(W.cell? ⟨b,0,none⟩=some v0∧W.frozen? ⟨b,0,none⟩=false)∧(W.cell? ⟨b,1,none⟩=some v1∧W.frozen? ⟨b,1,none⟩=false)∧(W.cell? ⟨b,2,none⟩=some v2∧W.frozen? ⟨b,2,none⟩=false):=by
 simp [World.cell?,World.frozen?,h]
theorem three_set {W U:World} {b:Nat} {t:TypeId} {a0 a1 a2 x0 x1 x2:Value} (h:W.heap[b]?=some (.cells #[a0,a1,a2] t (0,0))) (e:((W.setCell ⟨b,0,none⟩ x0).setCell ⟨b,1,none⟩ x1).setCell ⟨b,2,none⟩ x2=U):
  U.cell? ⟨b,0,none⟩=some x0∧U.cell? ⟨b,1,none⟩=some x1∧U.cell? ⟨b,2,none⟩=some x2∧∀ w B,B≤b→Below B w W→Below B w U:=by
 have h4:U.heap[b]?=some (.cells #[x0,x1,x2] t (0,0)):=by
  rw [← e,heap_setat (heap_setat (heap_setat h))]
  rfl
 refine ⟨by simp [World.cell?,h4],by simp [World.cell?,h4],by simp [World.cell?,h4],fun w B hb hB=>?_⟩
 rw [← e]
 exact ((hB.setCell (p:=⟨b,0,none⟩) hb _).setCell (p:=⟨b,1,none⟩) hb _).setCell (p:=⟨b,2,none⟩) hb _
theorem layerOf_any (nm:ByteArray) (c1 c2 c3:Int) (l:List Int) (hl:l.length≤2) (p:Option Addr) (n c:Nat) (w:World) (hv:Nums .i64 w (.slice p n c) l):
  Calls Tryz.prog 61 #[.agg #[.string nm,.int .i64 c1,.int .i64 c2,.int .i64 c3],.slice p n c] w fun e w'=>e = .returned (.agg #[.string nm,.int .i64 (l.getD 0 0),.int .i64 (l.getD 1 0)])∧Below w.heap.size w w':=by
 obtain ⟨x,ex⟩:∃ x,l.getD 0 0=x:=⟨_,rfl⟩
 obtain ⟨y,ey⟩:∃ y,l.getD 1 0=y:=⟨_,rfl⟩
 have HL:Hid (l.getD 0 0=x∧l.getD 1 0=y∧l.length≤2):=⟨ex,ey,hl⟩
 rw [ex,ey]
 clear ex ey hl
 have HV:Hid (Nums .i64 w (.slice p n c) l):=hv
 have hn:Hid (l.length=n):=by
  obtain ⟨_,_,_,e,h⟩:=hv.lst
  cases e
  exact h.out.1
 clear hv
 obtain ⟨WA,eWA⟩:∃ WA,(((w.alloc (.cells #[.string nm,.int .i64 c1,.int .i64 c2,.int .i64 c3] 114)).alloc (.cells #[.string ⟨#[]⟩,.int .i64 0,.int .i64 0] 73)).alloc (.cells #[.int .i64 0,.int .i64 0] 112))=WA:=⟨_,rfl⟩
 have hz:WA.heap.size=w.heap.size+3:=by rw [← eWA];simp
 have HA:Hid (Below w.heap.size w WA):=by show Below _ _ _;rw [← eWA];go_grown
 have HC:Hid (WA.heap[w.heap.size]?=some (.cells #[.string nm,.int .i64 c1,.int .i64 c2,.int .i64 c3] 114 (0,0))∧WA.heap[w.heap.size+1]?=some (.cells #[.string ⟨#[]⟩,.int .i64 0,.int .i64 0] 73 (0,0))∧WA.heap[w.heap.size+2]?=some (.cells [Value.int .i64 0,.int .i64 0].toArray 112 (0,0))):=by
  show _∧_∧_
  rw [← eWA]
  refine ⟨?_,?_,?_⟩
  ·exact ((up_alloc _ _).block _ (by simp;omega)).trans (((up_alloc _ _).block _ (by simp)).trans Array.getElem?_push_size)
  ·exact ((up_alloc _ _).block _ (by simp)).trans (by rw [show w.heap.size+1=(w.alloc (.cells #[.string nm,.int .i64 c1,.int .i64 c2,.int .i64 c3] 114)).heap.size by simp];exact Array.getElem?_push_size)
  ·rw [show w.heap.size+2=((w.alloc (.cells #[.string nm,.int .i64 c1,.int .i64 c2,.int .i64 c3] 114)).alloc (.cells #[.string ⟨#[]⟩,.int .i64 0,.int .i64 0] 73)).heap.size by simp]
   exact Array.getElem?_push_size
 have HLen:Hid ((vals .i64 l).length=Nat.min n 2):=by
  show _=_
  have:=HL.out.2.2
  rw [show (vals .i64 l).length=l.length by simp [vals],hn.out]
  exact (Nat.min_eq_left (by rw [← hn.out];exact this)).symm
 have HPos:Hid (0 < (vals .i64 l).length→(some (⟨w.heap.size+2,0,none⟩:Addr))=some ⟨w.heap.size+2,0,none⟩∧∃ ad,p=some ad∧∀ j v,(vals .i64 l)[j]?=some v→WA.cell? (ad.add j)=some v):=fun h0=>by
  refine ⟨rfl,?_⟩
  rcases HV.out.up HA.out with ⟨_,e⟩|⟨ad,_,e,h⟩
  ·rw [e] at h0;simp [vals] at h0
  ·cases e
   exact ⟨ad,rfl,h⟩
 have HFit:Hid (0+(vals .i64 l).length≤[Value.int .i64 0,.int .i64 0].length):=by show _≤_;have:=HL.out.2.2;simp [vals];exact this
 have HF5:Hid (∀ w5:World,w5.heap[w.heap.size+2]?=some (.cells (splice [Value.int .i64 0,.int .i64 0] 0 (vals .i64 l)).toArray 112 (0,0))→Below (w.heap.size+2) WA w5→(w5.cell? ⟨w.heap.size+2,0,none⟩=some (.int .i64 x)∧w5.cell? ⟨w.heap.size+2,1,none⟩=some (.int .i64 y))∧w5.cell? ⟨w.heap.size,0,none⟩=some (.string nm)∧Hid (w5.heap[w.heap.size+1]?=some (.cells #[.string ⟨#[]⟩,.int .i64 0,.int .i64 0] 73 (0,0))∧Below w.heap.size w w5)):=fun w5 h5 hB5=>by
  refine ⟨?_,?_,?_,?_⟩
  ·have h1:=HL.out.1
   have h2:=HL.out.2.1
   have h3:=HL.out.2.2
   unfold World.cell?
   rw [h5]
   match l,h1,h2,h3 with
   | [],h1,h2,_=>subst h1 h2;exact ⟨rfl,rfl⟩
   | [a],h1,h2,_=>subst h1 h2;exact ⟨rfl,rfl⟩
   | [a,b],h1,h2,_=>subst h1 h2;exact ⟨rfl,rfl⟩
  ·unfold World.cell?
   rw [show w5.heap[w.heap.size]?=_ from (hB5.block _ (by omega)).trans HC.out.1]
   rfl
  ·exact (hB5.block _ (by omega)).trans HC.out.2.1
  ·exact HA.out.trans (hB5.mono (by omega))
 go_enter Tryz.func61,Tryz.ntmps61
 go_wp2_with (have hR:=HC.out.2.2;(try rw [eWA]);refine wpList_copy_splice rfl (.tmp 6) (.tmp 7) 23 23 rfl 3 Tryz.underlying23 (by kernel_rfl) _ _ _ _ _ _ rfl rfl (w.heap.size+2) 0 _ 112 hR (vals .i64 l) HLen.out HPos.out HFit.out (vals_one _ _) (w.heap.size+2) WA (Below.refl _ _) (Nat.le_refl _) ?_;intro w5 hR5 hB5;obtain ⟨⟨f0,f1⟩,f2,f3⟩:=HF5.out w5 hR5.out hB5;obtain ⟨⟨g0,k0⟩,⟨g1,k1⟩,⟨g2,k2⟩⟩:=box_3 f3.out.1;clear hR5 hB5 hR)
 generalize hU:World.setCell _ _ _=U
 obtain ⟨u0,u1,u2,hBU⟩:=three_set f3.out.1 hU
 exact bodyPost_ret (v:=.agg #[.string nm,.int .i64 x,.int .i64 y]) (by simp [results,Tryz.results61,go_sem,u0,u1,u2]) rfl ⟨rfl,hBU w _ (by omega) f3.out.2⟩
end Go.Proofs.YtiampagapgjedaaGreatDoor.Wd
namespace Go.Proofs
open Go.Shelf
def Tryz.lays156_ren:Go.Shelf.Ren:=⟨fun|156=>73|165=>99|166=>100|169=>101|240=>126|241=>127|276=>141|277=>142|n=>n,fun|31=>83|9=>9|3=>3|4=>4|0=>0|20=>20|72=>164|76=>168|70=>161|37=>162|75=>167|127=>192|164=>201|5=>5|80=>170|n=>n,fun|n=>n⟩
theorem Tryz.lays156:Go.Proofs.Lays.n156 Tryz.prog Tryz.lays156_ren:={
 mixed:=by kernel_rfl
 f156:=Tryz.func73.trans (congrArg some (by kernel_rfl))
 f165:=Tryz.func99.trans (congrArg some (by kernel_rfl))
 f166:=Tryz.func100.trans (congrArg some (by kernel_rfl))
 f169:=Tryz.func101.trans (congrArg some (by kernel_rfl))
 f240:=Tryz.func126.trans (congrArg some (by kernel_rfl))
 f241:=Tryz.func127.trans (congrArg some (by kernel_rfl))
 f276:=Tryz.func141.trans (congrArg some (by kernel_rfl))
 f277:=Tryz.func142.trans (congrArg some (by kernel_rfl))
 t0:=Tryz.underlying0
 a0:=Tryz.isAgg0
 z0:=Tryz.sizeOf0
 v0:=Tryz.zeroValue0
 t3:=Tryz.underlying3
 a3:=Tryz.isAgg3
 z3:=Tryz.sizeOf3
 v3:=Tryz.zeroValue3
 t4:=Tryz.underlying4
 a4:=Tryz.isAgg4
 z4:=Tryz.sizeOf4
 v4:=Tryz.zeroValue4
 t9:=Tryz.underlying9
 a9:=Tryz.isAgg9
 z9:=Tryz.sizeOf9
 v9:=Tryz.zeroValue9
 t20:=Tryz.underlying20
 a20:=Tryz.isAgg20
 z20:=Tryz.sizeOf20
 v20:=Tryz.zeroValue20
 t31:=Tryz.underlying83
 a31:=Tryz.isAgg83
 z31:=Tryz.sizeOf83
 v31:=Tryz.zeroValue83
 t37:=Tryz.underlying162
 a37:=Tryz.isAgg162
 z37:=Tryz.sizeOf162
 v37:=Tryz.zeroValue162
 t70:=Tryz.underlying161
 a70:=Tryz.isAgg161
 z70:=Tryz.sizeOf161
 v70:=Tryz.zeroValue161
 t72:=Tryz.underlying164
 a72:=Tryz.isAgg164
 z72:=Tryz.sizeOf164
 v72:=Tryz.zeroValue164
 t75:=Tryz.underlying167
 a75:=Tryz.isAgg167
 z75:=Tryz.sizeOf167
 v75:=Tryz.zeroValue167
 t76:=Tryz.underlying168
 a76:=Tryz.isAgg168
 z76:=Tryz.sizeOf168
 v76:=Tryz.zeroValue168
 t127:=Tryz.underlying192
 a127:=Tryz.isAgg192
 z127:=Tryz.sizeOf192
 v127:=Tryz.zeroValue192
 t164:=Tryz.underlying201
 a164:=Tryz.isAgg201
 z164:=Tryz.sizeOf201
 v164:=Tryz.zeroValue201 }
theorem Tryz.Builder_Extra_156:Builder.Extra Tryz.prog Tryz.lays156_ren:={
 sizeBuilder:=by kernel_rfl
 liesBuilder:=by kernel_rfl
 t5:=Tryz.underlying5
 a5:=Tryz.isAgg5
 z5:=Tryz.sizeOf5
 v5:=Tryz.zeroValue5
 infoByte:=by kernel_rfl
 cellsByte:=by kernel_rfl
 sizeByte:=by kernel_rfl
 neB5:=by decide }
open Go.RowKit in
theorem Tryz.strings_Join (bk o c:Nat) (xs:List ByteArray) (sep:ByteArray) (w:World) (hcells:∀ (j:Nat) x,xs[j]?=some x→w.cell? ⟨bk,o+j,none⟩=some (.string x)) (hbk:bk < w.heap.size) (hN:xs.length≤140737488355328) (hcap:xs.length≤c) (hlen:(Lib.join (xs.map (·.data.toList)) sep.data.toList).length≤140737488355328):
  Calls Tryz.prog 73 #[.slice (some ⟨bk,o,none⟩) xs.length c,.string sep] w fun e w'=>e = .returned (.string ⟨(Lib.join (xs.map (·.data.toList)) sep.data.toList).toArray⟩)∧Below w.heap.size w w':=Any.strings_Join Tryz.lays156 Tryz.Builder_Extra_156 bk o c xs sep w hcells hbk hN hcap hlen
def Tryz.lays229_ren:Go.Shelf.Ren:=⟨fun|229=>62|n=>n,fun|9=>9|40=>119|31=>83|152=>156|3=>3|0=>0|4=>4|21=>21|154=>158|n=>n,fun|n=>n⟩
theorem Tryz.lays229:Go.Proofs.Lays.n229 Tryz.prog Tryz.lays229_ren:={
 mixed:=by kernel_rfl
 f229:=Tryz.func62.trans (congrArg some (by kernel_rfl))
 t0:=Tryz.underlying0
 a0:=Tryz.isAgg0
 z0:=Tryz.sizeOf0
 v0:=Tryz.zeroValue0
 t3:=Tryz.underlying3
 a3:=Tryz.isAgg3
 z3:=Tryz.sizeOf3
 v3:=Tryz.zeroValue3
 t4:=Tryz.underlying4
 a4:=Tryz.isAgg4
 z4:=Tryz.sizeOf4
 v4:=Tryz.zeroValue4
 t9:=Tryz.underlying9
 a9:=Tryz.isAgg9
 z9:=Tryz.sizeOf9
 v9:=Tryz.zeroValue9
 t21:=Tryz.underlying21
 a21:=Tryz.isAgg21
 z21:=Tryz.sizeOf21
 v21:=Tryz.zeroValue21
 t31:=Tryz.underlying83
 a31:=Tryz.isAgg83
 z31:=Tryz.sizeOf83
 v31:=Tryz.zeroValue83
 t40:=Tryz.underlying119
 a40:=Tryz.isAgg119
 z40:=Tryz.sizeOf119
 v40:=Tryz.zeroValue119
 t152:=Tryz.underlying156
 a152:=Tryz.isAgg156
 z152:=Tryz.sizeOf156
 v152:=Tryz.zeroValue156
 t154:=Tryz.underlying158
 a154:=Tryz.isAgg158
 z154:=Tryz.sizeOf158
 v154:=Tryz.zeroValue158 }
open Go.RowKit Go.Lib in
theorem Tryz.strings_FieldsFunc (g:Nat) (lb:Array Value) (eg:∀ args w,(callFunc g args).run Tryz.prog w = .ok (.enter g args) w) (p:Nat→Bool) (s:ByteArray) (w:World) (hs:s.size≤4294967296) (hp:PredAt Tryz.prog g lb encR p w):
  Calls Tryz.prog 62 #[.string s,.func (.func g) #[] lb] w fun e w'=>∃ A,e = .returned (.slice (some ⟨A,0,none⟩) (Lib.goFieldsP p s).length (Lib.goFieldsP p s).length)∧w.heap.size≤A∧
   w'.ownsRow w.heap.size 9 1 (.slice (some ⟨A,0,none⟩) (Lib.goFieldsP p s).length (Lib.goFieldsP p s).length) (Lib.goFieldsP p s).length ((Lib.goFieldsP p s).map Value.string)∧Below w.heap.size w w':=Any.strings_FieldsFunc Tryz.lays229 g lb eg p s w hs hp (by kernel_rfl) (by kernel_rfl)
end Go.Proofs
namespace Go.Proofs.YtiampagapgjedaaGreatDoor.Wd
open Go.RowKit
section
variable {P : Program} {ops : Array Oper} {Q : Exit → Act → World → Prop}
/-- The first m of n have come up. -/
def upTo (n m:Nat):Array Bool:=Array.replicate m true++Array.replicate (n - m) false
theorem upTo_size {n m:Nat} (h:m≤n):(upTo n m).size=n:=by simp [upTo];omega
theorem upTo_lt {n m j:Nat} (h:j < m) (b:Bool):(upTo n m).getD j b=true:=by
 simp [upTo,Array.getD_eq_getD_getElem?,Array.getElem?_append,h]
theorem upTo_ge {n m j:Nat} (h:m≤j) (hj:j < n) (b:Bool):(upTo n m).getD j b=false:=by
 simp [upTo,Array.getD_eq_getD_getElem?,Array.getElem?_append,Nat.not_lt.2 h,Array.getElem?_replicate]
 rw [if_pos (by omega)]
 rfl
theorem upTo_out {n m j:Nat} (h:m≤n) (hj:n≤j) (b:Bool):(upTo n m).getD j b=b:=by
 simp [upTo,Array.getD_eq_getD_getElem?,Array.getElem?_append,Nat.not_lt.2 (Nat.le_trans h hj),Array.getElem?_replicate]
 rw [if_neg (by omega)]
 rfl
theorem upTo_count {n m:Nat} (h:m≤n):(upTo n m).toList.count false=n - m:=by
 simp [upTo,List.count_replicate]
theorem upTo_eq {n m:Nat} {l:Array Bool} (hs:l.size=n) (hm:m≤n) (h1:∀ j,j < m→l.getD j false=true) (h2:∀ j,m≤j→j < n→l.getD j true=false):l=upTo n m:=by
 refine Array.ext (by rw [hs,upTo_size hm]) fun j hj hj'=>?_
 have hjn:j < n:=by omega
 rcases Nat.lt_or_ge j m with c|c
 ·have e1:=h1 j c
  have e2:=upTo_lt (n:=n) c false
  simp only [Array.getD_eq_getD_getElem?,Array.getElem?_eq_getElem hj,Array.getElem?_eq_getElem hj',Option.getD_some] at e1 e2
  rw [e1,e2]
 ·have e1:=h2 j c hjn
  have e2:=upTo_ge c hjn true
  simp only [Array.getD_eq_getD_getElem?,Array.getElem?_eq_getElem hj,Array.getElem?_eq_getElem hj',Option.getD_some] at e1 e2
  rw [e1,e2]
/-- The region from operation number m on, in any order that it may take. -/
def wpFrom (P:Program) (ops:Array Oper) (Q:Exit→Act→World→Prop) (m:Nat) (a:Act) (w:World):Prop:=wpAny P .any ops Q (ops.size - m) (upTo ops.size m) a w
theorem from_region {id:Nat} {a:Act} {w:World} (hm:P.follows .mixedOrders=true) (h:wpFrom P ops Q 0 a { w with drawn:=w.drawn+1 }):(Code.region id ops true).wp P Q a w:=by
 refine wp_region_any hm ?_
 unfold wpFrom at h
 have:upTo ops.size 0=Array.replicate ops.size false:=by simp [upTo]
 rw [this,Nat.sub_zero] at h
 exact h
/-- The rest is in the order of the text. -/
def tailB (ops:Array Oper) (m:Nat):Bool:=
 decide (m≤ops.size) && ((List.range ops.size).all fun i=>match ops[i]? with
  | none=>false
  | some o=>(o.after.all fun e=>!Region.binds .any e || decide (e.on < i)) && (List.range i).all fun j=>decide (j < m) || waits o j)
theorem from_list {a:Act} {w:World} (m:Nat) (hB:tailB ops m=true) (h:wpList P ops Q (ops.toList.drop m) a w):wpFrom P ops Q m a w:=by
 simp only [tailB,Bool.and_eq_true,decide_eq_true_eq] at hB
 obtain ⟨hm,hback⟩:=hB
 have hb:∀ i o,ops[i]?=some o→∀ e∈o.after,Region.binds .any e=true→e.on < i:=by
  intro i o ho e he hbi
  have:=List.all_eq_true.1 hback i (List.mem_range.2 (Array.getElem?_eq_some_iff.1 ho).1)
  simp only [ho,Bool.and_eq_true] at this
  have h1:=Array.all_eq_true_iff_forall_mem.1 this.1 e he
  simpa [hbi] using h1
 have hT:∀ i o,ops[i]?=some o→∀ j,m≤j→j < i→waits o j=true:=by
  intro i o ho j hj hji
  have:=List.all_eq_true.1 hback i (List.mem_range.2 (Array.getElem?_eq_some_iff.1 ho).1)
  simp only [ho,Bool.and_eq_true] at this
  have:=List.all_eq_true.1 this.2 j (List.mem_range.2 hji)
  simp only [Bool.or_eq_true,decide_eq_true_eq] at this
  rcases this with h|h
  ·omega
  ·exact h
 exact tail_any hb hT _ m _ a w (upTo_size hm) (Nat.le_refl _) (upTo_count hm) (fun j hj=>upTo_lt hj false) (fun j h1 h2=>upTo_ge h1 h2 true) h
/-- A family of worlds of a class, which holds with each world all that keep what stood in it. -/
structure FamC (C:World→Prop) (F:World→World):Prop where
 cls:∀ d,C (F d)
 on:∀ d W,Below (F d).heap.size (F d) W→∃ d',W=F d'
theorem famC_top {C:World→Prop} (hC:∀ W W',C W→Below W.heap.size W W'→C W') {W:World} (h:C W):FamC C (onTop W):=
 ⟨fun d=>hC _ _ h (onTop_below W d),fun d W' hb=>of_below ((onTop_below W d).trans (hb.mono (onTop_below W d).size))⟩
theorem FamC.call {C:World→Prop} {F:World→World} (hF:FamC C F) {P:Program} {f:FuncId} {args:Array Value} {d:World} {v:Value}
  (h:Calls P f args (F d) fun e w'=>e = .returned v∧Below (F d).heap.size (F d) w'):Calls P f args (F d) fun e w''=>e = .returned v∧∃ d',w''=F d':=
 h.mono fun _ _ ⟨he,hb⟩=>⟨he,hF.on d _ hb⟩
/-- What the one writing operation leaves. -/
def leavesUpon (P:Program) (φ:Value→World→Prop) (W:World):Result Next→Prop
 | .ok (.value u) W'=>φ u W'
 | .ok .skip W'=>φ undef W'
 | .ok (.enter f args) W'=>W'=W∧Calls P f args W (fun e W''=>∃ v,e = .returned v∧φ v W'')
 | _=>False
def leavesR (P:Program) (o:Oper) (a:Act) (W:World) (φ:Value→World→Prop):Prop:=leavesUpon P φ W ((execOp a.eval o).run P W)
/-- The walk of a segment in the order of the text; operation number c is the one that may write (none, if c is not among the told). -/
def segWalk (P:Program) (ops:Array Oper) (C:Bool→World→Prop) (T:World→World→Prop) (c:Nat) (ks:List Told) (x:Nat→Value) (G:Act):Nat→List Oper→Act→Prop
 | _,[],a=>a=G
 | i,o :: l,a=>match toldAt ks i with
  | none=>∃ v,(∀ b F,FamC (C b) F→Facts ops ks o x F→if Region.wanted o (yielded ops a.tmps)=true then ∀ K:Act→Prop,K (a.put o.dst v)→o.quiet P a (fun W=>∃ d,W=F d) K else v=undef)∧segWalk P ops C T c ks x G (i+1) l (a.put o.dst v)
  | some e=>(Region.wanted o (yielded ops a.tmps)=true∧(i≠c→∀ b F,FamC (C b) F→Facts ops ks o x F→∀ d,yieldsR P o a (F d) e.φ)∧(i=c→∀ W,C false W→Facts ops ks o x (fun _=>W)→leavesR P o a W (fun v W'=>e.φ v W'∧C true W'∧T W W')))∧segWalk P ops C T c ks x G (i+1) l (a.put (some e.t) (x e.k))
theorem put_out {a:Act} {t:Nat} {v:Value} (h:a.tmps.size≤t):a.put (some t) v=a:=by
 cases a
 simp only at h
 simp [Act.put,Array.setIfInBounds,Nat.not_lt.2 h]
/-- The slot that an operation writes; one beyond the frame's where it writes none (a store). -/
def dstOf (n:Nat) (o:Oper) (t:Tmp):Prop:=o.dst=some t∨(o.dst=none∧n≤t)
theorem dstOf.put {n:Nat} {o:Oper} {t:Tmp} (h:dstOf n o t) {a:Act} (hn:a.tmps.size=n) (v:Value):a.put (some t) v=a.put o.dst v:=by
 rcases h with h|⟨h,h2⟩
 ·rw [h]
 ·rw [h,put_out (by omega)]
  rfl
theorem seg_off {C:Bool→World→Prop} {T:World→World→Prop} {c:Nat} {ks:List Told} {x:Nat→Value} {G:Act} {n:Nat}:∀ (l:List Oper) (i:Nat) (a:Act),a.tmps.size=n→(∀ j e,toldAt ks (i+j)=some e→∀ o,l[j]?=some o→dstOf n o e.t)→segWalk P ops C T c ks x G i l a→
  G.tmps.size=a.tmps.size∧G.defers=a.defers∧∀ t,t∉dsts l→G.tmps[t]?=a.tmps[t]?
 | [],i,a,_,_,h=>by
  obtain rfl:a=G:=h
  exact ⟨rfl,rfl,fun _ _=>rfl⟩
 | o :: l,i,a,hn,hk,h=>by
  obtain ⟨v,hv⟩:∃ v,segWalk P ops C T c ks x G (i+1) l (a.put o.dst v):=by
   rw [segWalk] at h
   split at h
   ·obtain ⟨v,_,h2⟩:=h
    exact ⟨v,h2⟩
   ·rename_i e he
    have:=hk 0 e he o rfl
    exact ⟨_,by rw [← this.put hn];exact h.2⟩
  obtain ⟨h1,h2,h3⟩:=seg_off l (i+1) _ (by rw [put_size];exact hn) (fun j e he o ho=>hk (j+1) e (by rw [show i+(j+1)=i+1+j by omega];exact he) o (by simpa using ho)) hv
  refine ⟨by rw [h1,put_size],by rw [h2,put_defs],fun t ht=>?_⟩
  rw [h3 t (fun hm=>ht (by
   obtain ⟨x,hx,hd⟩:=List.mem_filterMap.1 hm
   exact List.mem_filterMap.2 ⟨x,List.mem_cons_of_mem _ hx,hd⟩)),put_off (fun hd=>ht (List.mem_filterMap.2 ⟨o,List.mem_cons_self,hd⟩))]
/-- What an operation yields in the last frame G. -/
def SegFit (P:Program) (ops:Array Oper) (C:Bool→World→Prop) (T:World→World→Prop) (c:Nat) (ks:List Told) (x:Nat→Value) (G:Act) (i:Nat) (o:Oper):Prop:=
 match toldAt ks i with
  | none=>∀ b F,FamC (C b) F→Facts ops ks o x F→(Region.wanted o (yielded ops G.tmps)=true∧∃ v,(∀ t,o.dst=some t→G.tmps[t]?=some v)∧∀ d,o.quietAt P G (fun W=>∃ d,W=F d) (F d) v)∨(Region.wanted o (yielded ops G.tmps)=false∧∀ t,o.dst=some t→G.tmps[t]?=some undef)
  | some e=>Region.wanted o (yielded ops G.tmps)=true∧(i≠c→∀ b F,FamC (C b) F→Facts ops ks o x F→∀ d,yieldsR P o G (F d) e.φ)∧(i=c→∀ W,C false W→Facts ops ks o x (fun _=>W)→leavesR P o G W (fun v W'=>e.φ v W'∧C true W'∧T W W'))
theorem seg_fit {C:Bool→World→Prop} {T:World→World→Prop} {c:Nat} {ks:List Told} {x:Nat→Value} {G:Act} (n:Nat):∀ (l:List Oper) (i:Nat) (a:Act),a.tmps.size=n→(∀ o,o∈l→∀ cs b,o.op≠.select cs b)→lexOk ops n l=true→
  (∀ j e,toldAt ks (i+j)=some e→∀ o,l[j]?=some o→dstOf n o e.t)→segWalk P ops C T c ks x G i l a→∀ j o,l[j]?=some o→SegFit P ops C T c ks x G (i+j) o
 | [],_,_,_,_,_,_,_,j,o,ho=>by simp at ho
 | o :: l,i,a,hn,hs,hl,hk,h,j,p,hp=>by
  have off:=seg_off (o :: l) i a hn hk h
  rw [lexOk,Bool.and_eq_true,Bool.and_eq_true] at hl
  obtain ⟨⟨hd,hlook⟩,hl⟩:=hl
  have look:∀ t,t∈o.looksAt ops→G.tmps[t]?=a.tmps[t]?:=fun t ht=>off.2.2 t (fun hm=>by
   have:=List.all_eq_true.1 hlook t hm
   simp at this
   exact this ht)
  have he:=exec_same (ops:=ops) (hs o List.mem_cons_self) look
  have hw:=wanted_same look
  have hk':∀ j e,toldAt ks (i+1+j)=some e→∀ o,l[j]?=some o→dstOf n o e.t:=fun j e he o ho=>hk (j+1) e (by rw [show i+(j+1)=i+1+j by omega];exact he) o (by simpa using ho)
  have next:∀ v,segWalk P ops C T c ks x G (i+1) l (a.put o.dst v)→∀ j p,(o :: l)[j+1]?=some p→SegFit P ops C T c ks x G (i+(j+1)) p:=fun v hv j p hp=>by
   have:=seg_fit n l (i+1) (a.put o.dst v) (by rw [put_size];exact hn) (fun o ho=>hs o (List.mem_cons_of_mem _ ho)) hl hk' hv j p (by simpa using hp)
   rw [show i+(j+1)=i+1+j by omega]
   exact this
  have later:∀ v,segWalk P ops C T c ks x G (i+1) l (a.put o.dst v)→∀ t,o.dst=some t→G.tmps[t]?=some v:=by
   intro v hv t ht
   rw [ht] at hd hv
   simp at hd
   rw [(seg_off l (i+1) _ (by rw [put_size];exact hn) hk' hv).2.2 t hd.2,put_on (by rw [hn];exact hd.1)]
  rw [segWalk] at h
  cases hc:toldAt ks i with
  | none=>
   rw [hc] at h
   obtain ⟨v,h1,h2⟩:=h
   cases j with
   | succ j=>exact next v h2 j p hp
   | zero=>
    simp only [List.getElem?_cons_zero,Option.some.injEq] at hp
    subst hp
    unfold SegFit
    rw [Nat.add_zero,hc]
    intro b F hF hf
    have h3:=h1 b F hF hf
    by_cases c:Region.wanted o (yielded ops a.tmps)=true
    ·rw [if_pos c] at h3
     obtain ⟨u,hu,hK⟩:=h3 (fun a'=>a'=a.put o.dst v) rfl
     left
     refine ⟨hw.trans c,u,?_,fun d=>?_⟩
     ·intro t ht
      rw [later v h2 t ht]
      rw [ht] at hK hd
      simp at hd
      have e1:(a.put (some t) u).tmps[t]?=(a.put (some t) v).tmps[t]?:=congrArg (fun a=>a.tmps[t]?) hK
      rw [put_on (by rw [hn];exact hd.1),put_on (by rw [hn];exact hd.1)] at e1
      exact e1.symm
     ·have:=hu _ ⟨d,rfl⟩
      unfold Oper.quietAt at *
      rw [he]
      exact this
    ·rw [if_neg c] at h3
     right
     refine ⟨hw.trans (by simpa using c),fun t ht=>?_⟩
     rw [later v h2 t ht,h3]
  | some e=>
   rw [hc] at h
   have hde:=hk 0 e hc o rfl
   cases j with
   | succ j=>exact next (x e.k) (by rw [← hde.put hn];exact h.2) j p hp
   | zero=>
    simp only [List.getElem?_cons_zero,Option.some.injEq] at hp
    subst hp
    unfold SegFit
    rw [Nat.add_zero,hc]
    obtain ⟨g1,g2,g3⟩:=h.1
    refine ⟨hw.trans g1,fun hne b F hF hf d=>?_,fun heq W hW hf=>?_⟩
    ·have:=g2 hne b F hF hf d
     unfold yieldsR at *
     rw [he]
     exact this
    ·have:=g3 heq W hW hf
     unfold leavesR at *
     rw [he]
     exact this
/-- The shape of the segment from k to m: what stands from m on waits for all of it. -/
def segB (ops:Array Oper) (k m:Nat):Bool:=
 decide (m≤ops.size) && Region.noSelect ops &&
 ((List.range ops.size).all fun i=>match ops[i]? with
  | none=>false
  | some o=>(o.after.all fun e=>!Region.binds .any e || decide (e.on < i)) && (decide (i≤m) || (List.range i).any fun j=>decide (m≤j) && waits o j)) &&
 (decide (ops.size≤m) || (List.range m).all fun j=>decide (j < k) || (List.range (m+1)).any fun n=>decide (j < n) && match ops[n]? with
  | none=>false
  | some o=>waits o j) &&
 ((List.range m).all fun i=>decide (i < k) || match ops[i]? with
  | none=>false
  | some o=>(List.range m).all fun j=>decide (j < k) || match (ops[j]?).bind (·.dst) with
   | none=>true
   | some t=>(!(o.looksAt ops).contains t || waits o j) && (i==j || o.dst != some t))
/-- Each told operation is in the segment and writes the slot that it names; no two of them write one slot. -/
def toldS (ops:Array Oper) (ks:List Told) (k m n:Nat):Bool:=
 (ks.all fun e=>decide (k≤e.k) && decide (e.k < m) && (decide (e.t < n) && (((ops[e.k]?).bind (·.dst))==some e.t) || decide (n≤e.t) && (((ops[e.k]?).bind (·.dst))==none) && ops.toList.all fun o=>!(o.looksAt ops).contains e.t)) && decide (ks.map (·.t)).Nodup && decide (ks.map (·.k)).Nodup
structure InvS (ops:Array Oper) (C:Bool→World→Prop) (c:Nat) (ks:List Told) (k m:Nat) (G:Act) (listed:Array Bool) (s:Act) (W:World) (x:Nat→Value):Prop where
 size:listed.size=ops.size
 done:∀ j,j < k→listed.getD j false=true
 head:∀ j,m≤j→j < ops.size→listed.getD j true=false
 fsize:s.tmps.size=G.tmps.size
 fdef:s.defers=G.defers
 slot:∀ t,(∀ j o,k≤j→j < m→ops[j]?=some o→o.dst=some t→listed.getD j false=true)→s.tmps[t]?=G.tmps[t]?
 cls:C (listed.getD c false) W
 told:∀ e,e∈ks→listed.getD e.k false=true→e.φ (x e.k) W
 closed:∀ j o,ops[j]?=some o→listed.getD j false=true→∀ e∈o.after,Region.binds .any e=true→listed.getD e.on false=true
theorem InvS.all {C:Bool→World→Prop} {c:Nat} {W:World} {ks:List Told} {k m:Nat} {G s:Act} {listed:Array Bool} {x:Nat→Value} (hI:InvS ops C c ks k m G listed s W x) (h:∀ j,j < m→listed.getD j false=true):s=G:=by
 have h1:s.tmps=G.tmps:=Array.ext_getElem? fun t=>hI.slot t fun j _ _ hj _ _=>h j hj
 have h2:=hI.fdef
 cases s
 cases G
 simp only at h1 h2
 rw [h1,h2]
theorem seg_any {C:Bool→World→Prop} {T:World→World→Prop} {c:Nat} {ks:List Told} {k m n:Nat} {G:(Nat→Value)→Act} {G0:Act} (hB:segB ops k m=true) (hK:toldS ops ks k m n=true) (hkm:k≤m)
  (hC:∀ b W W',C b W→Below W.heap.size W W'→C b W')
  (hcc:(∃ e,e∈ks∧e.k=c)∨m≤c)
  (hφ:∀ e,e∈ks→∀ v W W',e.φ v W→Below W.heap.size W W'→e.φ v W')
  (hT:∀ e,e∈ks→e.k≠c→∀ v W W',e.φ v W→C false W→T W W'→e.φ v W')
  (hG:∀ x,G x=putsK ks x G0) (hn:G0.tmps.size=n)
  (hfit:∀ x i o,k≤i→i < m→ops[i]?=some o→SegFit P ops C T c ks x (G x) i o)
  (ht:∀ W x,C (decide (c < m)) W→(∀ e,e∈ks→e.φ (x e.k) W)→wpFrom P ops Q m (G x) W):
  ∀ (fuel:Nat) (listed:Array Bool) (s:Act) (W:World) (x:Nat→Value),listed.toList.count false=fuel→InvS ops C c ks k m (G x) listed s W x→wpAny P .any ops Q fuel listed s W:=by
 simp only [segB,Bool.and_eq_true,decide_eq_true_eq] at hB
 obtain ⟨⟨⟨⟨hm,hsel⟩,hback⟩,hsink⟩,hX⟩:=hB
 simp only [toldS,Bool.and_eq_true,decide_eq_true_eq] at hK
 obtain ⟨⟨hK,hKt⟩,hKk⟩:=hK
 have hK':∀ e,e∈ks→(k≤e.k∧e.k < m)∧((e.t < n∧(ops[e.k]?).bind (·.dst)=some e.t)∨((n≤e.t∧(ops[e.k]?).bind (·.dst)=none)∧∀ o,o∈ops→(o.looksAt ops).contains e.t=false)):=by
  intro e he
  have:=List.all_eq_true.1 hK e he
  simp only [Bool.and_eq_true,Bool.or_eq_true,decide_eq_true_eq,beq_iff_eq] at this
  refine ⟨this.1,this.2.imp id fun h=>⟨h.1,fun o ho=>?_⟩⟩
  have:=List.all_eq_true.1 h.2 o (Array.mem_toList_iff.2 ho)
  simpa using this
 have hb:∀ i o,ops[i]?=some o→∀ e∈o.after,Region.binds .any e=true→e.on < i:=by
  intro i o ho e he hbi
  have:=List.all_eq_true.1 hback i (List.mem_range.2 (Array.getElem?_eq_some_iff.1 ho).1)
  simp only [ho,Bool.and_eq_true] at this
  have h1:=Array.all_eq_true_iff_forall_mem.1 this.1 e he
  simpa [hbi] using h1
 have hT':∀ i o,ops[i]?=some o→m < i→∃ j,m≤j∧j < i∧waits o j=true:=by
  intro i o ho hj
  have:=List.all_eq_true.1 hback i (List.mem_range.2 (Array.getElem?_eq_some_iff.1 ho).1)
  simp only [ho,Bool.and_eq_true] at this
  have:=this.2
  simp only [Bool.or_eq_true,decide_eq_true_eq] at this
  rcases this with h|h
  ·omega
  ·obtain ⟨j,hj1,hj2⟩:=List.any_eq_true.1 h
   simp only [Bool.and_eq_true,decide_eq_true_eq] at hj2
   exact ⟨j,hj2.1,List.mem_range.1 hj1,hj2.2⟩
 have hS:m < ops.size→∀ j,k≤j→j < m→∃ n o,j < n∧n≤m∧ops[n]?=some o∧waits o j=true:=by
  intro hlt j hkj hj
  rw [Bool.or_eq_true] at hsink
  rcases hsink with h|h
  ·simp at h;omega
  ·have h0:=List.all_eq_true.1 h j (List.mem_range.2 hj)
   rw [Bool.or_eq_true] at h0
   rcases h0 with h0|h0
   ·simp at h0;omega
   ·obtain ⟨n,hk,h1⟩:=List.any_eq_true.1 h0
    simp only [Bool.and_eq_true,decide_eq_true_eq] at h1
    have hk':n < ops.size:=by have:=List.mem_range.1 hk;omega
    have ho:ops[n]?=some ops[n]:=Array.getElem?_eq_getElem hk'
    rw [ho] at h1
    exact ⟨n,_,h1.1,by have:=List.mem_range.1 hk;omega,ho,h1.2⟩
 have hX':∀ i o,k≤i→i < m→ops[i]?=some o→∀ j t,k≤j→j < m→(ops[j]?).bind (·.dst)=some t→(t∈o.looksAt ops→waits o j=true)∧(i≠j→o.dst≠some t):=by
  intro i o hki hi ho j t hkj hj hd
  have h0:=List.all_eq_true.1 hX i (List.mem_range.2 hi)
  rw [Bool.or_eq_true] at h0
  have h0:_:=h0.resolve_left (by simp;omega)
  simp only [ho] at h0
  have h1:=List.all_eq_true.1 h0 j (List.mem_range.2 hj)
  rw [Bool.or_eq_true] at h1
  have this:=h1.resolve_left (by simp;omega)
  simp only [hd,Bool.and_eq_true,Bool.or_eq_true,bne_iff_ne,beq_iff_eq,Bool.not_eq_true',List.contains_eq_mem,decide_eq_false_iff_not] at this
  refine ⟨fun hl=>?_,fun hne=>?_⟩
  ·rcases this.1 with h|h
   ·exact absurd hl h
   ·exact h
  ·rcases this.2 with h|h
   ·exact absurd h hne
   ·exact h
 have gsize:∀ x,(G x).tmps.size=n:=fun x=>by rw [hG,putsK_size];exact hn
 have gat:∀ x e,e∈ks→e.t < n→(G x).tmps[e.t]?=some (x e.k):=fun x e he hlt=>by
  rw [hG]
  exact putsK_at x ks G0 hKt e he (by rw [hn];exact hlt)
 have finish:∀ (listed:Array Bool) (s:Act) (W:World) (x:Nat→Value),InvS ops C c ks k m (G x) listed s W x→(∀ j,j < m→listed.getD j false=true)→wpAny P .any ops Q (listed.toList.count false) listed s W:=by
  intro listed s W x hI hall
  have hs:=hI.all hall
  have hl:=upTo_eq hI.size hm hall hI.head
  have hcl:listed.getD c false=decide (c < m):=by
   rw [hl]
   rcases Nat.lt_or_ge c m with h|h
   ·rw [upTo_lt h];simp [h]
   ·have:decide (c < m)=false:=by simp;omega
    rw [this]
    rcases Nat.lt_or_ge c ops.size with h'|h'
    ·exact upTo_ge h h' _
    ·exact upTo_out hm h' _
  have h:=ht W x (by rw [← hcl];exact hI.cls) (fun e he=>hI.told e he (hall _ (hK' e he).1.2))
  unfold wpFrom at h
  rw [hl,upTo_count hm,hs]
  exact h
 intro fuel
 induction fuel with
 | zero=>
  intro listed s W x hc hI
  have hall:∀ j,j < m→listed.getD j false=true:=fun j hj=>listed_of (by rw [hI.size];omega) (count_none hc j)
  have:=finish listed s W x hI hall
  rw [hc] at this
  exact this
 | succ fuel ih=>
  intro listed s W x hc hI
  refine ⟨fun hr=>by
   obtain ⟨i,hi⟩:=count_some hc
   exact absurd hr (first_ready hI.size hb i hi),fun i hi=>?_⟩
  obtain ⟨hun,o,ho,hall⟩:=mem_ready.1 hi
  have hilt:i < ops.size:=(Array.getElem?_eq_some_iff.1 ho).1
  have hki:k≤i:=by
   rcases Nat.lt_or_ge i k with h|h
   ·have h1:=hI.done i h
    have h2:=(unlisted hun).2
    rw [h1] at h2;cases h2
   ·exact h
  rcases Nat.lt_or_ge i m with him|him
  ·have look:∀ t,t∈o.looksAt ops→s.tmps[t]?=(G x).tmps[t]?:=fun t htl=>
    hI.slot t fun j oj hkj hj hoj hd=>waits_listed ((hX' i o hki him ho j t hkj hj (by rw [hoj];exact hd)).1 htl) hall
   have he:=exec_same (ops:=ops) (Region.noSelect_spec hsel i o · · ho) look
   have hwt:=wanted_same look
   have told_at:∀ e,e∈ks→(o.looksAt ops).contains e.t=true→listed.getD e.k false=true:=fun e hek htl=>by
    obtain ⟨h1,⟨_,h3⟩|h3⟩:=hK' e hek
    ·exact waits_listed ((hX' i o hki him ho e.k e.t h1.1 h1.2 h3).1 (by simpa using htl)) hall
    ·have:=h3.2 o (Array.mem_of_getElem? ho)
     rw [htl] at this
     cases this
   have facts:Facts ops ks o x (onTop W):=fun e hek htl d=>hφ e hek _ _ _ (hI.told e hek (told_at e hek htl)) (onTop_below W d)
   have fit:=hfit x i o hki him ho
   unfold SegFit at fit
   have fam:=famC_top (hC (listed.getD c false)) hI.cls
   obtain ⟨d0,hd0⟩:=of_below (Below.refl W.heap.size W)
   have other:∀ e,e∈ks→e.k≠i→(listed.setIfInBounds i true).getD e.k false=true→listed.getD e.k false=true:=fun e _ hne h=>by
    rw [getD_set_ne false (Ne.symm hne)] at h;exact h
   have done':∀ j,j < k→(listed.setIfInBounds i true).getD j false=true:=fun j hj=>by rw [getD_set_ne false (by omega)];exact hI.done j hj
   unfold wpOp
   simp only [ho]
   cases hc1:toldAt ks i with
   | none=>
    rw [hc1] at fit
    have fit:=fit _ _ fam facts
    have hnk:=toldAt_none hc1
    have hic:i≠c:=by
     rcases hcc with ⟨e,he1,he2⟩|h
     ·rw [← he2];exact fun h=>hnk e he1 h.symm
     ·omega
    have next:∀ (v:Value) (W':World),(∀ t,o.dst=some t→(G x).tmps[t]?=some v)→Below W.heap.size W W'→wpAny P .any ops Q fuel (listed.setIfInBounds i true) (s.put o.dst v) W':=by
     intro v W' hv hbW
     refine ih _ _ W' x (count_listed hun hc) ⟨by simpa using hI.size,done',fun j hj hj'=>by rw [getD_set_ne true (by omega)];exact hI.head j hj hj',by rw [put_size];exact hI.fsize,by rw [put_defs];exact hI.fdef,fun t hcond=>?_,by rw [getD_set_ne false hic];exact hC _ _ _ hI.cls hbW,fun e hek hl=>hφ e hek _ _ _ (hI.told e hek (other e hek (hnk e hek) hl)) hbW,closed_set ho hall hI.closed⟩
     by_cases hd:o.dst=some t
     ·rw [hv t hd,hd]
      exact put_on (by rw [hI.fsize];exact (Array.getElem?_eq_some_iff.1 (hv t hd)).1)
     ·rw [put_off hd]
      refine hI.slot t fun j oj hkj hj hoj hdj=>?_
      have:=hcond j oj hkj hj hoj hdj
      by_cases c:i=j
      ·subst c
       rw [ho] at hoj
       cases hoj
       exact absurd hdj hd
      ·rw [getD_set_ne false c] at this
       exact this
    rcases fit with ⟨hw,v,hv,hq⟩|⟨hw,hu⟩
    ·rw [if_pos (hwt.trans hw)]
     left
     have hq:=hq d0
     rw [← hd0] at hq
     unfold Oper.wp
     unfold Oper.quietAt at hq
     rw [he]
     generalize (execOp (G x).eval o).run P W=r at hq
     cases r with
     | halt x w'=>exact hq.elim
     | ok n w'=>
      cases n <;> simp only [Oper.quietUpon] at hq <;> simp only [Oper.upon]
      case value u=>
       obtain ⟨e1,e2⟩:=hq
       rw [e1,e2]
       exact next v W hv (Below.refl _ _)
      case skip=>
       obtain ⟨e1,e2⟩:=hq
       rw [e1,← e2]
       exact next v W hv (Below.refl _ _)
      case enter f args=>
       obtain ⟨e1,hc⟩:=hq
       rw [e1]
       exact hc.mono fun e w'' ⟨he,d,hw''⟩=>by subst he;rw [hw''];exact next v _ hv (onTop_below W d)
    ·rw [if_neg (by rw [hwt,hw];exact Bool.false_ne_true)]
     exact next undef W hu (Below.refl _ _)
   | some e=>
    rw [hc1] at fit
    obtain ⟨hek,hei⟩:=toldAt_some hc1
    subst hei
    have hod:(e.t < n∧o.dst=some e.t)∨(n≤e.t∧o.dst=none):=by
     have:=(hK' e hek).2
     rw [ho] at this
     exact this.imp id fun h=>h.1
    have uniq:∀ e',e'∈ks→e'.k=e.k→e'=e:=fun e' he' hk=>by
     have h1:=toldAt_mem ks hKk e' he'
     rw [hk,hc1] at h1
     exact (Option.some.inj h1).symm
    have next:∀ (v:Value) (W':World),e.φ v W'→C ((listed.setIfInBounds e.k true).getD c false) W'→(∀ e',e'∈ks→e'.k≠e.k→∀ u,listed.getD e'.k false=true→e'.φ u W→e'.φ u W')→wpAny P .any ops Q fuel (listed.setIfInBounds e.k true) (s.put o.dst v) W':=by
     intro v W' hv hcls hkeep
     refine ih _ _ W' (upd x e.k v) (count_listed hun hc) ⟨by simpa using hI.size,done',fun j hj hj'=>by rw [getD_set_ne true (by omega)];exact hI.head j hj hj',by rw [put_size,hI.fsize,gsize,gsize],by rw [put_defs,hI.fdef,hG,hG,putsK_defs,putsK_defs],fun t hcond=>?_,hcls,fun e' hek' hl=>?_,closed_set ho hall hI.closed⟩
     ·by_cases hd:o.dst=some t
      ·rw [hd]
       rcases hod with ⟨hlt,hod⟩|⟨_,hod⟩
       case inr=>rw [hod] at hd;cases hd
       obtain rfl:e.t=t:=by rw [hod] at hd;exact Option.some.inj hd
       rw [gat _ e hek hlt,put_on (by rw [hI.fsize,gsize];exact hlt)]
       show some v=some (if e.k=e.k then v else x e.k)
       rw [if_pos rfl]
      ·by_cases hnt:n≤t
       ·rw [put_off hd,Array.getElem?_eq_none (by rw [hI.fsize,gsize];exact hnt),Array.getElem?_eq_none (by rw [gsize];exact hnt)]
       rw [put_off hd,hG,putsK_upd x e.k v t ks G0 G0 rfl rfl (fun e' he' hk' hh=>by
        have hh2:e.t=t:=by rw [← uniq e' he' hk'];exact hh
        rcases hod with ⟨_,hod⟩|⟨hge,_⟩
        ·exact hd (by rw [hod,hh2])
        ·exact hnt (hh2 ▸ hge)),← hG]
       refine hI.slot t fun j oj hkj hj hoj hdj=>?_
       have:=hcond j oj hkj hj hoj hdj
       by_cases c:e.k=j
       ·subst c
        rw [ho] at hoj
        cases hoj
        exact absurd hdj hd
       ·rw [getD_set_ne false c] at this
        exact this
     ·by_cases c:e'.k=e.k
      ·obtain rfl:=uniq e' hek' c
       show e'.φ (if e'.k=e'.k then v else x e'.k) W'
       rw [if_pos rfl]
       exact hv
      ·show e'.φ (if e'.k=e.k then v else x e'.k) W'
       rw [if_neg c]
       have hl':=other e' hek' c hl
       exact hkeep e' hek' c _ hl' (hI.told e' hek' hl')
    obtain ⟨hw,hy,hz⟩:=fit
    rw [if_pos (hwt.trans hw)]
    left
    by_cases hec:e.k=c
    ·have hcl:listed.getD c false=false:=by rw [← hec];exact (unlisted hun).2
     have hcs:=hI.cls
     rw [hcl] at hcs
     have hy:=hz hec W hcs (fun e' hek' htl _=>hI.told e' hek' (told_at e' hek' htl))
     have hc2:(listed.setIfInBounds e.k true).getD c false=true:=by
      rw [hec] at hun ⊢
      have:=(unlisted hun).1
      simp [this]
     have next':∀ (v:Value) (W':World),(e.φ v W'∧C true W'∧T W W')→wpAny P .any ops Q fuel (listed.setIfInBounds e.k true) (s.put o.dst v) W':=fun v W' ⟨h1,h2,h3⟩=>
      next v W' h1 (by rw [hc2];exact h2) (fun e' he' hne u _ hu=>hT e' he' (by rw [← hec];exact hne) u W W' hu hcs h3)
     unfold Oper.wp
     unfold leavesR at hy
     rw [he]
     generalize (execOp (G x).eval o).run P W=r at hy
     cases r with
     | halt x w'=>exact hy.elim
     | ok n w'=>
      cases n <;> simp only [leavesUpon] at hy <;> simp only [Oper.upon]
      case value u=>exact next' u w' hy
      case skip=>exact next' undef w' hy
      case enter f args=>
       obtain ⟨e1,hc⟩:=hy
       rw [e1]
       exact hc.mono fun e' w'' ⟨v,he',h1⟩=>by subst he';exact next' v w'' h1
    ·have hy:=hy hec _ _ fam facts d0
     rw [← hd0] at hy
     have next':∀ (v:Value) (W':World),e.φ v W'→Below W.heap.size W W'→wpAny P .any ops Q fuel (listed.setIfInBounds e.k true) (s.put o.dst v) W':=fun v W' h1 h2=>
      next v W' h1 (by rw [getD_set_ne false hec];exact hC _ _ _ hI.cls h2) (fun e' he' _ u _ hu=>hφ e' he' u W W' hu h2)
     unfold Oper.wp
     unfold yieldsR at hy
     rw [he]
     generalize (execOp (G x).eval o).run P W=r at hy
     cases r with
     | halt x w'=>exact hy.elim
     | ok n w'=>
      cases n <;> simp only [yieldsUpon] at hy <;> simp only [Oper.upon]
      case value u=>exact next' u w' hy.1 hy.2
      case skip=>exact next' undef w' hy.1 hy.2
      case enter f args=>
       obtain ⟨e1,hc⟩:=hy
       rw [e1]
       exact hc.mono fun e' w'' ⟨v,he',h1,h2⟩=>by subst he';exact next' v w'' h1 h2
  ·obtain rfl:i=m:=by
    rcases Nat.lt_or_ge m i with c|c
    ·obtain ⟨j,h0,h1,h2⟩:=hT' i o ho c
     have h3:=waits_listed h2 hall
     have h4:=(unlisted (hI.head j h0 (by omega))).2
     rw [h3] at h4;cases h4
    ·omega
   have hl:∀ d j,i - j=d→k≤j→j < i→listed.getD j false=true:=by
    intro d
    induction d using Nat.strongRecOn with
    | _ d ihd=>
     intro j hd hkj hj
     obtain ⟨n,on,hjn,hn,hon,hwn⟩:=hS hilt j hkj hj
     rcases Nat.lt_or_ge n i with c|c
     ·have:=ihd (i - n) (by omega) n rfl (by omega) c
      exact waits_listed hwn (hI.closed n on hon this)
     ·obtain rfl:n=i:=by omega
      rw [ho] at hon
      cases hon
      exact waits_listed hwn hall
   have hl':∀ j,j < i→listed.getD j false=true:=fun j hj=>by
    rcases Nat.lt_or_ge j k with c|c
    ·exact hI.done j c
    ·exact hl (i - j) j rfl c hj
   have h:=finish listed s W x hI hl'
   rw [hc] at h
   exact h.2 i hi
/-- THE LAW of one segment, from k to m. -/
theorem seg {a:Act} {w:World} {l:List Oper} (C:Bool→World→Prop) (T:World→World→Prop) (c:Nat) (ks:List Told) (k m n:Nat) (hn:a.tmps.size=n) (hl:l=(ops.toList.drop k).take (m - k)) (hB:(decide (k≤m) && segB ops k m && lexOk ops n l)=true) (hK:toldS ops ks k m n=true)
  (hC:∀ b W W',C b W→Below W.heap.size W W'→C b W') (hw:C false w)
  (hcc:(∃ e,e∈ks∧e.k=c)∨m≤c)
  (hφ:∀ e,e∈ks→∀ v W W',e.φ v W→Below W.heap.size W W'→e.φ v W')
  (hT:∀ e,e∈ks→e.k≠c→∀ v W W',e.φ v W→C false W→T W W'→e.φ v W')
  (h:∃ G:(Nat→Value)→Act,(∀ x,segWalk P ops C T c ks x (G x) k l a)∧(∀ x,G x=putsK ks x (G fun _=>undef))∧
   ∀ W x,C (decide (c < m)) W→(∀ e,e∈ks→e.φ (x e.k) W)→wpFrom P ops Q m (G x) W):wpFrom P ops Q k a w:=by
 obtain ⟨G,h1,h2,h3⟩:=h
 simp only [Bool.and_eq_true,decide_eq_true_eq] at hB
 obtain ⟨⟨hkm,hB1⟩,hlex⟩:=hB
 have hB':=hB1
 simp only [segB,Bool.and_eq_true,decide_eq_true_eq] at hB'
 have hms:=hB'.1.1.1.1
 have hK2:=hK
 simp only [toldS,Bool.and_eq_true,decide_eq_true_eq] at hK2
 have hKe:∀ e,e∈ks→k≤e.k∧e.k < m:=fun e hek=>by
  have:=List.all_eq_true.1 hK2.1.1 e hek
  simp only [Bool.and_eq_true,Bool.or_eq_true,decide_eq_true_eq,beq_iff_eq] at this
  exact this.1
 have at_:∀ j,k+j < m→l[j]?=ops[k+j]?:=by
  intro j hj
  rw [hl,List.getElem?_take_of_lt (by omega),List.getElem?_drop]
  simp
 have hk:∀ j e,toldAt ks (k+j)=some e→∀ o,l[j]?=some o→dstOf n o e.t:=by
  intro j e he o ho
  obtain ⟨hek,hej⟩:=toldAt_some he
  have:=List.all_eq_true.1 hK2.1.1 e hek
  simp only [Bool.and_eq_true,Bool.or_eq_true,decide_eq_true_eq,beq_iff_eq] at this
  rw [at_ j (by rw [← hej];exact this.1.2)] at ho
  have h4:=this.2
  rw [hej,ho] at h4
  exact h4.imp (fun h=>h.2) fun h=>⟨h.1.2,h.1.1⟩
 have hsel:∀ o,o∈l→∀ cs b,o.op≠.select cs b:=by
  intro o ho cs b
  rw [hl] at ho
  obtain ⟨j,hj,e⟩:=List.getElem_of_mem (List.mem_of_mem_drop (List.mem_of_mem_take ho))
  exact Region.noSelect_spec hB'.1.1.1.2 j o cs b (by rw [← e];simp at hj ⊢)
 have hsz:∀ x,(G x).tmps.size=n:=fun x=>by rw [(seg_off l k a hn hk (h1 x)).1,hn]
 have off:=seg_off l k a hn hk (h1 fun _=>undef)
 unfold wpFrom
 refine seg_any (C:=C) (T:=T) (c:=c) (ks:=ks) (k:=k) (m:=m) (n:=n) (G:=G) (G0:=G fun _=>undef) hB1 hK hkm hC hcc hφ hT h2 (hsz _) (fun x i o hki hi ho=>?_) h3 _ _ _ _ (fun _=>undef) ?_ ⟨upTo_size (Nat.le_trans hkm hms),fun j hj=>upTo_lt hj _,fun j hj hj'=>upTo_ge (Nat.le_trans hkm hj) hj' _,off.1.symm,off.2.1.symm,fun t hc=>?_,?_,fun e he hl=>?_,fun j o ho hl e he hbi=>?_⟩
 ·have:=seg_fit n l k a hn hsel hlex hk (h1 x) (i - k) o (by rw [at_ (i - k) (by omega),show k+(i - k)=i by omega];exact ho)
  rw [show k+(i - k)=i by omega] at this
  exact this
 ·exact upTo_count (Nat.le_trans hkm hms)
 ·refine (off.2.2 t fun hm'=>?_).symm
  obtain ⟨o,ho,hd⟩:=List.mem_filterMap.1 hm'
  obtain ⟨j,hj,e⟩:=List.getElem_of_mem ho
  have hjl:j < m - k:=by rw [hl] at hj;simp at hj;omega
  have ho':ops[k+j]?=some o:=by rw [← at_ j (by omega),List.getElem?_eq_getElem hj,e]
  have hlt:k+j < ops.size:=(Array.getElem?_eq_some_iff.1 ho').1
  have:=hc (k+j) o (by omega) (by omega) ho' hd
  rw [upTo_ge (by omega) hlt] at this
  cases this
 ·have:(upTo ops.size k).getD c false=false:=by
   have hkc:k≤c:=by
    rcases hcc with ⟨e,he1,he2⟩|h
    ·rw [← he2];exact (hKe e he1).1
    ·omega
   rcases Nat.lt_or_ge c ops.size with h|h
   ·exact upTo_ge hkc h _
   ·exact upTo_out (Nat.le_trans hkm hms) h _
  rw [this]
  exact hw
 ·obtain ⟨h4,h5⟩:=hKe e he
  rw [upTo_ge h4 (by omega)] at hl
  cases hl
 ·have hlt:j < ops.size:=(Array.getElem?_eq_some_iff.1 ho).1
  have hjk:j < k:=by
   rcases Nat.lt_or_ge j k with h|h
   ·exact h
   ·rw [upTo_ge h hlt] at hl;cases hl
  have h6:=List.all_eq_true.1 hB'.1.1.2 j (List.mem_range.2 hlt)
  simp only [ho,Bool.and_eq_true] at h6
  have h7:=Array.all_eq_true_iff_forall_mem.1 h6.1 e he
  have h8:e.on < j:=by simpa [hbi] using h7
  exact upTo_lt (by omega) _
theorem segQuiet {C:Bool→World→Prop} {T:World→World→Prop} {c:Nat} {ks:List Told} {x:Nat→Value} {G a:Act} {i:Nat} {o:Oper} {l:List Oper} (hk:toldAt ks i=none) (hw:Region.wanted o (yielded ops a.tmps)=true)
  (h:∃ v,(∀ b F,FamC (C b) F→Facts ops ks o x F→∀ K:Act→Prop,K (a.put o.dst v)→o.quiet P a (fun W=>∃ d,W=F d) K)∧segWalk P ops C T c ks x G (i+1) l (a.put o.dst v)):segWalk P ops C T c ks x G i (o :: l) a:=by
 rw [segWalk,hk]
 obtain ⟨v,h1,h2⟩:=h
 exact ⟨v,fun b F hF hf=>by rw [if_pos hw];exact h1 b F hF hf,h2⟩
theorem segTold {C:Bool→World→Prop} {T:World→World→Prop} {c:Nat} {ks:List Told} {x:Nat→Value} {G a:Act} {i:Nat} {o:Oper} {l:List Oper} {e:Told} (hk:toldAt ks i=some e) (hi:i≠c) (hw:Region.wanted o (yielded ops a.tmps)=true)
  (h1:∀ b F,FamC (C b) F→Facts ops ks o x F→∀ d,yieldsR P o a (F d) e.φ) (h2:segWalk P ops C T c ks x G (i+1) l (a.put (some e.t) (x e.k))):segWalk P ops C T c ks x G i (o :: l) a:=by
 rw [segWalk,hk]
 exact ⟨⟨hw,fun _=>h1,fun h=>absurd h hi⟩,h2⟩
theorem segBusy {C:Bool→World→Prop} {T:World→World→Prop} {c:Nat} {ks:List Told} {x:Nat→Value} {G a:Act} {i:Nat} {o:Oper} {l:List Oper} {e:Told} (hk:toldAt ks i=some e) (hi:i=c) (hw:Region.wanted o (yielded ops a.tmps)=true)
  (h1:∀ W,C false W→Facts ops ks o x (fun _=>W)→leavesR P o a W (fun v W'=>e.φ v W'∧C true W'∧T W W')) (h2:segWalk P ops C T c ks x G (i+1) l (a.put (some e.t) (x e.k))):segWalk P ops C T c ks x G i (o :: l) a:=by
 rw [segWalk,hk]
 exact ⟨⟨hw,fun h=>absurd hi h,fun _=>h1⟩,h2⟩
theorem segEnd {C:Bool→World→Prop} {T:World→World→Prop} {c:Nat} {ks:List Told} {x:Nat→Value} {G a:Act} {i:Nat} (h:a=G):segWalk P ops C T c ks x G i [] a:=h
end
end Go.Proofs.YtiampagapgjedaaGreatDoor.Wd
namespace Go.Proofs
open Go.Shelf
def Tryz.lays134_ren:Go.Shelf.Ren:=⟨fun|134=>226|129=>160|n=>n,fun|53=>130|3=>3|4=>4|46=>189|5=>5|9=>9|n=>n,fun|n=>n⟩
theorem Tryz.lays134:Go.Proofs.Lays.n134 Tryz.prog Tryz.lays134_ren:={
 mixed:=by kernel_rfl
 f129:=Tryz.func160.trans (congrArg some (by kernel_rfl))
 f134:=Tryz.func226.trans (congrArg some (by kernel_rfl))
 t3:=Tryz.underlying3
 a3:=Tryz.isAgg3
 z3:=Tryz.sizeOf3
 v3:=Tryz.zeroValue3
 t4:=Tryz.underlying4
 a4:=Tryz.isAgg4
 z4:=Tryz.sizeOf4
 v4:=Tryz.zeroValue4
 t5:=Tryz.underlying5
 a5:=Tryz.isAgg5
 z5:=Tryz.sizeOf5
 v5:=Tryz.zeroValue5
 t9:=Tryz.underlying9
 a9:=Tryz.isAgg9
 z9:=Tryz.sizeOf9
 v9:=Tryz.zeroValue9
 t46:=Tryz.underlying189
 a46:=Tryz.isAgg189
 z46:=Tryz.sizeOf189
 v46:=Tryz.zeroValue189
 t53:=Tryz.underlying130
 a53:=Tryz.isAgg130
 z53:=Tryz.sizeOf130
 v53:=Tryz.zeroValue130 }
theorem Tryz.bits_LeadingZeros64 (x:Int) (w:World) (h0:0≤x) (h1:x≤18446744073709551615):
  Calls Tryz.prog 226 #[.int .u64 x] w fun e w'=>e = .returned (.int .i64 (64 - (Lib.bitLen x.toNat:Int)))∧w'=w:=Any.bits_LeadingZeros64 Tryz.lays134 x w h0 h1
def Tryz.lays264_ren:Go.Shelf.Ren:=⟨fun|264=>190|n=>n,fun|53=>130|46=>189|n=>n,fun|n=>n⟩
theorem Tryz.lays264:Go.Proofs.Lays.n264 Tryz.prog Tryz.lays264_ren:={
 mixed:=by kernel_rfl
 f264:=Tryz.func190.trans (congrArg some (by kernel_rfl))
 t46:=Tryz.underlying189
 a46:=Tryz.isAgg189
 z46:=Tryz.sizeOf189
 v46:=Tryz.zeroValue189
 t53:=Tryz.underlying130
 a53:=Tryz.isAgg130
 z53:=Tryz.sizeOf130
 v53:=Tryz.zeroValue130 }
open Go.RowKit Go.Lib in
theorem Tryz.bits_Mul64 (x y:Nat) (hx:x < 18446744073709551616) (hy:y < 18446744073709551616) (w:World):
  Calls Tryz.prog 190 #[.int .u64 x,.int .u64 y] w fun e w'=>e = .returned (.tuple #[.int .u64 ((x*y / 18446744073709551616:Nat):Int),.int .u64 ((x*y % 18446744073709551616:Nat):Int)])∧w'=w:=Any.bits_Mul64 Tryz.lays264 x y hx hy w
def Tryz.lays212_ren:Go.Shelf.Ren:=⟨fun|212=>221|263=>230|264=>190|n=>n,fun|46=>189|51=>210|146=>266|53=>130|148=>241|n=>n,fun|n=>n⟩
theorem Tryz.lays212:Go.Proofs.Lays.n212 Tryz.prog Tryz.lays212_ren:={
 mixed:=by kernel_rfl
 f212:=Tryz.func221.trans (congrArg some (by kernel_rfl))
 f263:=Tryz.func230.trans (congrArg some (by kernel_rfl))
 f264:=Tryz.func190.trans (congrArg some (by kernel_rfl))
 t46:=Tryz.underlying189
 a46:=Tryz.isAgg189
 z46:=Tryz.sizeOf189
 v46:=Tryz.zeroValue189
 t51:=Tryz.underlying210
 a51:=Tryz.isAgg210
 z51:=Tryz.sizeOf210
 v51:=Tryz.zeroValue210
 t53:=Tryz.underlying130
 a53:=Tryz.isAgg130
 z53:=Tryz.sizeOf130
 v53:=Tryz.zeroValue130
 t146:=Tryz.underlying266
 a146:=Tryz.isAgg266
 z146:=Tryz.sizeOf266
 v146:=Tryz.zeroValue266
 t148:=Tryz.underlying241
 a148:=Tryz.isAgg241
 z148:=Tryz.sizeOf241
 v148:=Tryz.zeroValue241 }
open Go.RowKit Go.Lib in
theorem Tryz.bits_Mul (x y:Nat) (hx:x < 18446744073709551616) (hy:y < 18446744073709551616) (w:World):
  Calls Tryz.prog 221 #[.int .u64 x,.int .u64 y] w fun e w'=>e = .returned (.tuple #[.int .u64 ((x*y / 18446744073709551616:Nat):Int),.int .u64 ((x*y % 18446744073709551616:Nat):Int)])∧w'=w:=Any.bits_Mul Tryz.lays212 x y hx hy w
end Go.Proofs
namespace Go.Proofs.YtiampagapgjedaaGreatDoor.Fx
open Go.RowKit
theorem ret_int {k:IntKind} {a b:Int} (h:a=b):Ending.returned (.int k a) = .returned (.int k b):=by rw [h]
theorem bound_any (b:Bool) (w:World):
  Calls Tryz.prog 189 #[.bool b] w fun e w'=>e = .returned (.int .i64 (lim b))∧w'=w:=by
 cases b
 all_goals
  go_enter Tryz.func189,Tryz.ntmps189
  go_wp2
  go_ret
  exact ⟨rfl,rfl⟩
theorem size_any (a:Int) (n:Nat) (ha:InR a) (hn:a.natAbs=n) (w:World):
  Calls Tryz.prog 191 #[.int .i64 a] w fun e w'=>e = .returned (.int .u64 n)∧w'=w:=by
 unfold InR at ha
 have H:Hid (a.natAbs=n):=hn
 clear hn
 by_cases h:a < 0
 all_goals
  go_enter Tryz.func191,Tryz.ntmps191
  go_wp2
  go_ret
  refine ⟨ret_int ?_,rfl⟩
  have hn:=H.out
  try simp only [IntKind.wrap_u64]
  omega
theorem held_any (b:Bool) (n:Nat) (hn:n < 18446744073709551616) (w:World):
  Calls Tryz.prog 192 #[.bool b,.int .u64 n] w fun e w'=>e = .returned (.int .i64 (hold (sg b n)))∧w'=w:=by
 by_cases h:9223372036854775807 < n
 ·go_enter Tryz.func192,Tryz.ntmps192
  go_wp2_with (go_at_call 189;refine (bound_any _ _).mono ?_;rintro e w' ⟨rfl,rfl⟩)
  go_ret
  exact ⟨ret_int (held_far b n h),rfl⟩
 ·cases b
  all_goals
   go_enter Tryz.func192,Tryz.ntmps192
   go_wp2
   go_ret
   first|exact ⟨ret_int (held_up n (by omega)),rfl⟩|exact ⟨ret_int (held_down n (by omega)),rfl⟩
theorem nearest_any (q r d:Nat) (hq:q < 18446744073709551615) (hr:r < d) (hd:d≤9223372036854775808) (w:World):
  Calls Tryz.prog 220 #[.int .u64 q,.int .u64 r,.int .u64 d] w fun e w'=>e = .returned (.int .u64 (nr q r d:Nat))∧w'=w:=by
 go_enter Tryz.func220,Tryz.ntmps220
 go_wp2
 all_goals
  go_ret
  refine ⟨ret_int ?_,rfl⟩
  try simp only [beq_iff_eq,beq_eq_false_iff_ne,ne_eq] at *
  unfold nr
  split <;> omega
theorem byParts_any (hi lo:Nat) (h1:hi < 2147483648) (h2:lo < 18446744073709551616) (w:World):
  Calls Tryz.prog 193 #[.int .u64 hi,.int .u64 lo] w fun e w'=>e = .returned (.int .u64 (rq (hi*18446744073709551616+lo) 4294967296:Nat))∧w'=w:=by
 go_enter Tryz.func193,Tryz.ntmps193
 go_wp2_with fail
 rw [joinN hi lo (by omega) h2,maskN lo h2]
 have c:=nearest_any (hi*4294967296+lo / 4294967296) (lo % 4294967296) 4294967296 (by omega) (by omega) (by omega) w
 rw [show ((4294967296:Nat):Int)=4294967296 from rfl] at c
 refine c.mono ?_
 rintro e w' ⟨rfl,rfl⟩
 go_wp2
 go_ret
 refine ⟨ret_int ?_,rfl⟩
 rw [← rq_nr,parts_q,parts_r]
theorem of_any (n:Int) (hn:InR n) (w:World):
  Calls Tryz.prog 227 #[.int .i64 n] w fun e w'=>e = .returned (.int .i64 (hold (n*4294967296)))∧w'=w:=by
 unfold InR at hn
 by_cases h1:n > 2147483647
 ·go_enter Tryz.func227,Tryz.ntmps227
  go_wp2
  go_ret
  exact ⟨ret_int (hold_hi (by omega)).symm,rfl⟩
 ·by_cases h2:n < -2147483648
  ·go_enter Tryz.func227,Tryz.ntmps227
   go_wp2
   go_ret
   exact ⟨ret_int (hold_lo (by omega)).symm,rfl⟩
  ·go_enter Tryz.func227,Tryz.ntmps227
   go_wp2
   go_ret
   refine ⟨ret_int ?_,rfl⟩
   rw [hold_in (by omega) (by omega)]
theorem add_any (a b:Int) (ha:InR a) (hb:InR b) (w:World):
  Calls Tryz.prog 165 #[.int .i64 a,.int .i64 b] w fun e w'=>e = .returned (.int .i64 (hold (a+b)))∧w'=w:=by
 go_enter Tryz.func165,Tryz.ntmps165
 go_wp2_with (go_at_call 189;refine (bound_any _ _).mono ?_;rintro e w' ⟨rfl,rfl⟩)
 all_goals
  go_ret
  first
  |exact ⟨ret_int (add_over' a b ha hb ‹_›),rfl⟩
  |exact ⟨ret_int (add_fits a b ha hb ‹_›),rfl⟩
theorem sub_any (a b:Int) (ha:InR a) (hb:InR b) (w:World):
  Calls Tryz.prog 166 #[.int .i64 a,.int .i64 b] w fun e w'=>e = .returned (.int .i64 (hold (a - b)))∧w'=w:=by
 go_enter Tryz.func166,Tryz.ntmps166
 go_wp2_with (go_at_call 189;refine (bound_any _ _).mono ?_;rintro e w' ⟨rfl,rfl⟩)
 all_goals
  go_ret
  first
  |exact ⟨ret_int (sub_over' a b ha hb ‹_›),rfl⟩
  |exact ⟨ret_int (sub_fits a b ha hb ‹_›),rfl⟩
theorem mul64_at (x y hi lo:Nat) (hx:x < 18446744073709551616) (hy:y < 18446744073709551616) (e1:hi=x*y / 18446744073709551616) (e2:lo=x*y % 18446744073709551616) (w:World):
  Calls Tryz.prog 190 #[.int .u64 x,.int .u64 y] w fun e w'=>e = .returned (.tuple #[.int .u64 hi,.int .u64 lo])∧w'=w:=by
 subst e1 e2
 exact Tryz.bits_Mul64 x y hx hy w
theorem mul_any (a b:Int) (ha:InR a) (hb:InR b) (w:World):
  Calls Tryz.prog 167 #[.int .i64 a,.int .i64 b] w fun e w'=>e = .returned (.int .i64 (mulI a b))∧w'=w:=by
 have hx:a.natAbs≤9223372036854775808:=by unfold InR at ha;omega
 have hy:b.natAbs≤9223372036854775808:=by unfold InR at hb;omega
 obtain ⟨x,ea⟩:∃ x,a.natAbs=x:=⟨_,rfl⟩
 obtain ⟨y,eb⟩:∃ y,b.natAbs=y:=⟨_,rfl⟩
 obtain ⟨hi,e1⟩:∃ hi,hi=x*y / 18446744073709551616:=⟨_,rfl⟩
 obtain ⟨lo,e2⟩:∃ lo,lo=x*y % 18446744073709551616:=⟨_,rfl⟩
 have hh:hi≤4611686018427387904:=by
  have:=Nat.mul_le_mul (ea ▸ hx) (eb ▸ hy)
  omega
 have hl:lo < 18446744073709551616:=by omega
 have E:Hid (a.natAbs=x∧b.natAbs=y∧hi=x*y / 18446744073709551616∧lo=x*y % 18446744073709551616):=⟨ea,eb,e1,e2⟩
 have hx':x < 18446744073709551616:=by omega
 have hy':y < 18446744073709551616:=by omega
 clear ea eb e1 e2
 by_cases hf:hi < 2147483648
 all_goals
  go_enter Tryz.func167,Tryz.ntmps167
  go_wp2_with fail
  refine (size_any a x ha E.out.1 _).mono ?_
  rintro e w' ⟨rfl,rfl⟩
  go_wp2_with fail
  refine (size_any b y hb E.out.2.1 _).mono ?_
  rintro e w' ⟨rfl,rfl⟩
  go_wp2_with fail
  refine (mul64_at x y hi lo hx' hy' E.out.2.2.1 E.out.2.2.2 _).mono ?_
  rintro e w' ⟨rfl,rfl⟩
  go_wp2_with fail
 ·refine (byParts_any hi lo hf hl _).mono ?_
  rintro e w' ⟨rfl,rfl⟩
  go_wp2_with fail
  refine (held_any _ _ (parts_lt hi lo hf hl) _).mono ?_
  rintro e w' ⟨rfl,rfl⟩
  go_wp2
  go_ret
  exact ⟨ret_int (mul_near a b x y E.out.1 E.out.2.1 hi lo E.out.2.2.1 E.out.2.2.2),rfl⟩
 ·refine (bound_any _ _).mono ?_
  rintro e w' ⟨rfl,rfl⟩
  go_wp2
  go_ret
  exact ⟨ret_int (mul_far a b x y E.out.1 E.out.2.1 (by have:=E.out.2.2.1;omega)),rfl⟩
end Go.Proofs.YtiampagapgjedaaGreatDoor.Fx
