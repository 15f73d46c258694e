/- The code's reading of texts: wordsOf, netOf. · The code's plans: their steps, add. -/
import Derived.Test.YtiampagapgjedaaGreatDoorP05
import Derived.Test.YtiampagapgjedaaGreatDoorP21
import Derived.Test.YtiampagapgjedaaGreatDoorP10
set_option linter.unusedVariables false
set_option linter.unusedSimpArgs false
set_option maxHeartbeats 16000000
set_option maxRecDepth 16000
namespace Go.Proofs.YtiampagapgjedaaGreatDoor.Wd
open Go.RowKit
theorem wordsOf_any (s:ByteArray) (hs:s.size≤16384) (w:World):Calls Tryz.prog 33 #[.string s] w fun e w'=>∃ v,e = .returned v∧StrV w' v (wordsB s)∧Below w.heap.size w w':=by
 have hp:PredAt Tryz.prog 63 #[] encR blankR w:=fun W x hb=>by
  unfold FnGives
  refine (isBlank_any (x:Int) W).mono ?_
  rintro e w1 ⟨rfl,rfl⟩
  refine ⟨?_,0,rfl⟩
  have k:∀ j:Nat,((x:Int)==(j:Int))=(x==j):=fun j=>by
   by_cases h:x=j
   ·subst h;simp
   ·rw [beq_false_of_ne h,beq_false_of_ne fun e=>h (by omega)]
  have k0:=k 32
  have k1:=k 9
  have k2:=k 10
  show Ending.returned (Value.bool ((x:Int)==32 || (x:Int)==9 || (x:Int)==10)) = .returned (.bool (x==32 || x==9 || x==10))
  rw [← k0,← k1,← k2]
  rfl
 have cF:=Tryz.strings_FieldsFunc 63 #[] (by intro args W;kernel_rfl) blankR s w (by omega) hp
 rw [words_same] at cF
 clear hp
 obtain ⟨ws,ew⟩:∃ ws,wordsB s=ws:=⟨_,rfl⟩
 rw [ew] at cF ⊢
 clear ew
 go_enter Tryz.func33,Tryz.ntmps33
 go_wp2_with fail
 refine cF.mono ?_
 rintro e w1 ⟨A,rfl,hA,ho,hB⟩
 have HO:Hid (StrV w1 (.slice (some ⟨A,0,none⟩) ws.length ws.length) ws∧Below w.heap.size w w1):=by
  refine ⟨⟨_,_,rfl,Nat.le_refl _,fun i hi=>⟨A,0,rfl,?_⟩⟩,hB⟩
  have:=World.ownsRow.cells ho rfl i (.string (wdA ws i)) (by
   rw [List.getElem?_map,List.getElem?_eq_getElem hi]
   unfold wdA
   rw [List.getD_eq_getElem?_getD,List.getElem?_eq_getElem hi]
   rfl)
  rw [addr_plus] at this
  exact this
 clear cF ho hB hA
 go_wp2
 go_ret
 exact ⟨_,rfl,HO.out⟩
def lyC (l:Ly):List Value:=[.string l.1,.int .i64 l.2.1,.int .i64 l.2.2]
theorem lyC_at (ls:List Ly) (i k:Nat) (hi:i < ls.length) (hk:k < 3):(ls.flatMap lyC)[i*3+k]?=(lyC (lyA ls i))[k]?:=by
 induction ls generalizing i with
 | nil=>simp at hi
 | cons l ls ih=>
  rw [List.flatMap_cons]
  cases i with
  | zero=>
   rw [Nat.zero_mul,Nat.zero_add,List.getElem?_append_left (by show k < 3;exact hk)]
   rfl
  | succ i=>
   rw [List.getElem?_append_right (by show 3≤_;omega),show (i+1)*3+k - (lyC l).length=i*3+k by show (i+1)*3+k - 3=_;omega,ih i (by simpa using hi)]
   rfl
/-- A slice of layers of the call's own. -/
def LyO (W:World) (B:Nat) (v:Value) (ls:List Ly):Prop:=W.ownsRow B 73 3 v ls.length (ls.flatMap lyC)
theorem LyO.rd {W:World} {B:Nat} {v:Value} {ls:List Ly} (h:LyO W B v ls):∃ p c,v = .slice p ls.length c∧LyR 0 W p ls.length ls:=by
 have h':=h
 rcases h.2 with ⟨rfl,h0⟩|⟨g,cap,cur,rfl,hB,h5,h6⟩
 ·exact ⟨none,0,by rw [h0],rfl,fun i hi=>by omega⟩
 ·refine ⟨_,cap,rfl,rfl,fun i hi=>?_⟩
  have hc:∀ k,k < 3→∀ v,(lyC (lyA ls i))[k]?=some v→W.cell? ⟨g,0+i*3+k,none⟩=some v:=fun k hk v hv=>by
   have:=World.ownsRow.cells h' rfl (i*3+k) v ((lyC_at ls i k hi hk).trans hv)
   rw [addr_plus,← Nat.add_assoc] at this
   exact this
  exact ⟨g,0,rfl,hc 0 (by omega) _ rfl,hc 1 (by omega) _ rfl,hc 2 (by omega) _ rfl⟩
theorem LyO.only {Q:List TypeId} {W W':World} {B:Nat} {v:Value} {ls:List Ly} (h:LyO W B v ls) (ho:Only Q W W') (h1:73∉Q):LyO W' B v ls:=owns_only h ho h1
theorem LyO.up {W W':World} {B:Nat} {v:Value} {ls:List Ly} (h:LyO W B v ls) (hB:Below W.heap.size W W'):LyO W' B v ls:=h.only (Q:=[]) (Only.of hB) (by simp)
theorem LyO.nil (W:World) (B:Nat):LyO W B (.slice none 0 0) []:=⟨rfl,.inl ⟨rfl,rfl⟩⟩
theorem layT:GT Tryz.prog 24 73 3 32:=⟨Tryz.underlying24,by kernel_rfl⟩
/-- append of one element that a literal holds, as a run. -/
theorem appGr {P:Program} {t e:TypeId} {s b:Nat} (T:GT P t e s b) (hb:b≤256) (hs0:0 < s) (ty:TypeId) (W:World) (B:Nat) (v:Value) (n:Nat) (xs:List Value) (ho:W.ownsRow B e s v n xs) (g:Nat) (u:List Value) (hg:W.heap[g]?=some (.cells u.toArray e (0,0))) (hu:u.length=s) (h1:∀ x∈u,x.oneCell'=true) (hn:n+1≤1073741825) (hB:B≤W.heap.size):
  ∃ g' cap w',(Builtin.append_ #[t,t] ty #[v,.slice (some ⟨g,0,none⟩) 1 1]).run P W = .ok (.slice (some ⟨g',0,none⟩) (n+1) cap) w'∧w'.ownsRow B e s (.slice (some ⟨g',0,none⟩) (n+1) cap) (n+1) (xs++u)∧W.grownBy w' v.ownBlock:=by
 have hi:=T.hi
 cases h:P.info? e with
 | none=>rw [h] at hi;cases hi
 | some i=>
  rw [h] at hi
  simp only [Option.map_some,Option.some.injEq,Prod.mk.injEq] at hi
  obtain ⟨hz,hs,hby⟩:=hi
  cases hz0:i.zero with
  | none=>rw [hz0] at hz;cases hz
  | some z=>
   rw [hz0] at hz
   simp only [Option.map_some,Option.some.injEq] at hz
   have hm:(n+1)*b≤1073741825*256:=Nat.mul_le_mul hn hb
   obtain ⟨g',cap,w',hr,h2,h3,_,_⟩:=run_append_lies (P:=P) W t ty B e i z s b T.ht h hz0 hs hby hz hs0 v n xs ho ⟨g,0,none⟩ 1 1 u (by omega) (fun j x hj=>by
    rw [addr_plus,Nat.zero_add]
    unfold World.cell?
    simpa [hg] using hj) h1 (by omega) (by unfold maxLen;omega) (by omega) hB _ rfl
   exact ⟨g',cap,w',hr,h2,h3⟩
/-- A row of the call's own, told as a value. -/
def OwnG (e:TypeId) (s B n:Nat) (xs:List Value) (v:Value) (W:World):Prop:=∃ g c,v = .slice (some ⟨g,0,none⟩) n c∧W.ownsRow B e s v n xs
theorem OwnG.up {e:TypeId} {s B n:Nat} {xs:List Value} {v:Value} {W W':World} (h:OwnG e s B n xs v W) (hB:Below W.heap.size W W'):OwnG e s B n xs v W':=by
 obtain ⟨g,c,e,h⟩:=h
 exact ⟨g,c,e,owns_only (S:=[]) h (Only.of hB) (by simp)⟩
theorem grown_only {e:TypeId} {s B n:Nat} {xs:List Value} {v:Value} {W W':World} (h:W.ownsRow B e s v n xs) (hg:W.grownBy W' v.ownBlock):Only [e] W W':=Only.grown hg fun k hk=>by
 rcases h.2 with ⟨rfl,_⟩|⟨g',cap,cur,rfl,_,hc,_⟩
 ·cases hk
 ·cases hk
  exact ⟨_,_,_,hc,by simp⟩
theorem box_2 {W:World} {b:Nat} {v0 v1:Value} {e:TypeId} (h:W.heap[b]?=some (.cells #[v0,v1] e (0,0))):(W.cell? ⟨b,0,none⟩=some v0∧W.frozen? ⟨b,0,none⟩=false)∧(W.cell? ⟨b,1,none⟩=some v1∧W.frozen? ⟨b,1,none⟩=false):=by
 simp [World.cell?,World.frozen?,h]
theorem box_4 {W:World} {b:Nat} {v0 v1 v2 v3:Value} {e:TypeId} (h:W.heap[b]?=some (.cells #[v0,v1,v2,v3] e (0,0))):W.cell? ⟨b,0,none⟩=some v0∧W.cell? ⟨b,1,none⟩=some v1∧W.cell? ⟨b,2,none⟩=some v2∧W.cell? ⟨b,3,none⟩=some v3:=by
 simp [World.cell?,h]
theorem two_set {W U:World} {b:Nat} {t:TypeId} {a0 a1 x0 x1:Value} (h:W.heap[b]?=some (.cells #[a0,a1] t (0,0))) (e:(W.setCell ⟨b,0,none⟩ x0).setCell ⟨b,1,none⟩ x1=U):
  U.cell? ⟨b,0,none⟩=some x0∧U.cell? ⟨b,1,none⟩=some x1∧(∀ w B,B≤b→Below B w W→Below B w U)∧Only [t] W U:=by
 have h4:U.heap[b]?=some (.cells #[x0,x1] t (0,0)):=by
  rw [← e,heap_setat (heap_setat h)]
  rfl
 refine ⟨by simp [World.cell?,h4],by simp [World.cell?,h4],fun w B hb hB=>?_,?_⟩
 ·rw [← e]
  exact (hB.setCell (p:=⟨b,0,none⟩) hb _).setCell (p:=⟨b,1,none⟩) hb _
 ·rw [← e]
  exact (Only.set h (by simp)).trans (Only.set (heap_setat h) (by simp))
theorem parL_succ (f:Nat) (u:ByteArray) (us:List ByteArray):parL (f+1) (u :: us)=if kindI u=5∨(numsA us (kCnt (kindI u))).1.length≠kCnt (kindI u) then none else (parL f (numsA us (kCnt (kindI u))).2).map fun ls=>(u,(numsA us (kCnt (kindI u))).1.getD 0 0,(numsA us (kCnt (kindI u))).1.getD 1 0) :: ls:=rfl
theorem parW_cons (u:ByteArray) (us:List ByteArray):parW (u :: us)=if u=kIn∧(numsA us 2).1≠[] then (parL (numsA us 2).2.length (numsA us 2).2).map fun ls=>((numsA us 2).1,ls) else none:=rfl
theorem parL_map {f:Nat} {u:ByteArray} {us:List ByteArray} {l:List Int×List ByteArray} (hf:us.length+1≤f) (h:kindI u < 5) (hl:numsA us (kCnt (kindI u))=l) (hc:l.1.length=kCnt (kindI u)):parL f (u :: us)=(parL l.2.length l.2).map fun ls=>(u,l.1.getD 0 0,l.1.getD 1 0) :: ls:=by
 obtain ⟨f,rfl⟩:∃ g,f=g+1:=⟨f - 1,by omega⟩
 rw [parL_succ,hl,if_neg fun h'=>h'.elim (fun e=>by omega) (fun e=>e hc)]
 have:=(numsA_len us (kCnt (kindI u))).2
 rw [hl] at this
 rw [parL_fuel f l.2.length l.2 (by omega) (Nat.le_refl _)]
theorem parL_bad {f:Nat} {u:ByteArray} {us:List ByteArray} (hf:us.length+1≤f) (h:kindI u=5∨(numsA us (kCnt (kindI u))).1.length≠kCnt (kindI u)):parL f (u :: us)=none:=by
 obtain ⟨f,rfl⟩:∃ g,f=g+1:=⟨f - 1,by omega⟩
 rw [parL_succ,if_pos h]
/-- What netOf hands back. -/
def NetO (x:Option (List Int×List Ly)) (B:Nat) (v:Value) (W:World):Prop:=match x with
 | none=>v = .tuple #[.agg #[.slice none 0 0,.slice none 0 0],.bool false]
 | some y=>∃ p n c p2 n2 c2,v = .tuple #[.agg #[.slice p n c,.slice p2 n2 c2],.bool true]∧OwnK .i64 3 W B (.slice p n c) y.1∧LyO W B (.slice p2 n2 c2) y.2
/-- What numbersAhead hands back. -/
def NumP (W0:World) (B:Nat) (X:List Int×List ByteArray) (v:Value) (W:World):Prop:=∃ v1 v2,v = .tuple #[v1,v2]∧OwnK .i64 3 W B v1 X.1∧StrV W0 v2 X.2
theorem NumP.up {W0:World} {B:Nat} {X:List Int×List ByteArray} {v:Value} {W W':World} (h:NumP W0 B X v W) (hB:Below W.heap.size W W'):NumP W0 B X v W':=by
 obtain ⟨v1,v2,e,h1,h2⟩:=h
 exact ⟨v1,v2,e,h1.up hB,h2⟩
def StrP (W0:World) (ws:List ByteArray) (v:Value) (W:World):Prop:=StrV W0 v ws
theorem in_ne {x:ByteArray} (h:x≠kIn):(x.toList == [105,110])=false:=by
 have e:kIn.toList = [105,110]:=by first|decide +kernel|simp [kIn]
 rw [← e]
 exact str_ne h
theorem in_eq:(kIn.toList == [105,110])=true:=by
 have e:kIn.toList = [105,110]:=by first|decide +kernel|simp [kIn]
 rw [e]
 rfl
theorem netOf_any (v:Value) (ws:List ByteArray) (hbig:ws.length≤1073741823) (w:World) (hK:Hid (Kz w)) (hv:StrV w v ws):
  Calls Tryz.prog 32 #[v] w fun e w'=>∃ v',e = .returned v'∧NetO (parW ws) w.heap.size v' w'∧Below w.heap.size w w':=by
 haveI:Nonempty World:=⟨w⟩
 obtain ⟨p0,n0,c0,rfl,hn0⟩:=hv.form
 have HV:Hid (StrV w (.slice p0 n0 c0) ws):=hv
 obtain ⟨R,eR⟩:∃ R,parW ws=R:=⟨_,rfl⟩
 rw [eR]
 clear hv
 go_enter Tryz.func32,Tryz.ntmps32
 cases ws with
 | nil=>
  obtain rfl:n0=0:=by simpa using hn0.symm
  have eR':R=none:=by rw [← eR];rfl
  subst eR'
  clear eR
  go_wp2
  exact bodyPost_ret (v:=.tuple #[.agg #[.slice none 0 0,.slice none 0 0],.bool false]) (by simp [results,Tryz.results32,go_sem]) rfl ⟨_,rfl,rfl,by go_grown⟩
 | cons u us=>
  obtain rfl:n0=us.length+1:=by simpa using hn0.symm
  have hn1:(((us.length+1:Nat):Int)==0)=false:=by simpa using (show ((us.length+1:Nat):Int)≠0 by omega)
  obtain ⟨pp,cc,e,hcc,hcell⟩:=HV.out
  cases e
  obtain ⟨q,o,rfl,h0⟩:=hcell 0 (by simp)
  rw [Nat.add_zero] at h0
  have h00:w.cell? ⟨q,o,none⟩=some (.string u):=h0
  have hz:=cell_size h00
  clear h0 hcell
  by_cases hu:u=kIn
  case neg=>
   have eR':R=none:=by rw [← eR,parW_cons,if_neg fun h=>hu h.1]
   subst eR'
   have hu':=in_ne hu
   clear eR
   go_wp2
   exact bodyPost_ret (v:=.tuple #[.agg #[.slice none 0 0,.slice none 0 0],.bool false]) (by simp [results,Tryz.results32,go_sem]) rfl ⟨_,rfl,rfl,by go_grown⟩
  subst hu
  have hu':=in_eq
  obtain ⟨p',n',c',es,hcut⟩:=cutS HV.out
  have hrun:=cutS_run (some ⟨q,o,none⟩) (us.length+1) c0 (by omega)
  rw [es] at hrun
  have HCut:Hid (StrV w (.slice p' n' c') us):=hcut
  clear hcut es
  go_wp2_with fail
  generalize hW0:World.alloc _ _=W0
  have HB0:Hid (Below w.heap.size w W0):=by rw [← hW0];exact up_alloc w _
  have HX0:Hid (W0.heap[w.heap.size]?=some (.cells #[.slice none 0 0,.slice none 0 0] 26 (0,0))):=by
   show _=_
   rw [← hW0]
   exact Array.getElem?_push_size
  clear hW0
  have cn:=numbersAhead_any _ us 2 (by omega) W0 W0 (Below.refl _ _) (HCut.out.up HB0.out)
  refine cn.mono ?_
  rintro e w1 ⟨v1,v2,rfl,ho1,hs2,hB1⟩
  obtain ⟨D,eD⟩:∃ D,(numsA us 2).1=D:=⟨_,rfl⟩
  obtain ⟨rs,ers⟩:∃ D,(numsA us 2).2=D:=⟨_,rfl⟩
  have hrl:=(numsA_len us 2).2
  have HR:Hid (R=if D≠[] then (parL rs.length rs).map fun ls=>(D,ls) else none):=by
   show _=_
   rw [← eR,parW_cons,eD,ers]
   by_cases h:D≠[]
   ·rw [if_pos ⟨rfl,h⟩,if_pos h]
   ·rw [if_neg fun h'=>h h'.2,if_neg h]
  rw [eD] at ho1
  rw [ers] at hs2 hrl
  have hrb:rs.length≤1073741823:=by simp only [List.length_cons] at hbig;omega
  obtain ⟨pa,na,ca,rfl,HCa⟩:=ho1.nums.lst
  have hna:=HCa.out.1
  obtain ⟨pr,nr,cr,rfl,hnr⟩:=hs2.form
  have HO1:Hid (OwnK .i64 3 w1 W0.heap.size (.slice pa na ca) D∧StrV W0 (.slice pr nr cr) rs∧Below W0.heap.size W0 w1):=⟨ho1,hs2,hB1⟩
  have hz2:w.heap.size < W0.heap.size:=heap_lt HX0.out
  have HX1:=(hB1.block _ hz2).trans HX0.out
  obtain ⟨⟨x0,y0⟩,⟨x1,y1⟩⟩:=box_2 HX1
  have hzw1:=cell_size x0
  clear cn ho1 hs2 hB1 eD ers HCa eR hrun h00 hu' hn1 HCut HV hrl hcc
  by_cases hD:D = []
  ·subst hD
   obtain rfl:na=0:=by simpa using hna.symm
   have eR':R=none:=by rw [HR.out];rfl
   subst eR'
   go_wp2
   generalize hU:World.setCell _ _ _=U
   obtain ⟨u0,u1,hBU,_⟩:=two_set HX1 hU
   exact bodyPost_ret (v:=.tuple #[.agg #[.slice none 0 0,.slice none 0 0],.bool false]) (by simp [results,Tryz.results32,go_sem,u0,u1]) rfl ⟨_,rfl,rfl,hBU w _ (Nat.le_refl _) (bstep HB0.out HO1.out.2.2)⟩
  rw [if_pos hD] at HR
  have hna0:((na:Int)==0)=false:=by
   have:D.length≠0:=fun h=>hD (List.eq_nil_of_length_eq_zero h)
   simpa using (show (na:Int)≠0 by omega)
  clear hD x0 x1 y0 y1
  go_wp2_with fail
  generalize hW2:World.alloc _ _=W2
  have HI2:Hid (Below W0.heap.size W0 W2∧W2.heap[w1.heap.size]?=some (.cells #[.slice pa na ca,.slice none 0 0] 26 (0,0))∧OwnK .i64 3 W2 W0.heap.size (.slice pa na ca) D):=by
   have hb:Below w1.heap.size w1 W2:=by rw [← hW2];exact up_alloc w1 _
   refine ⟨bstep HO1.out.2.2 hb,?_,HO1.out.1.up hb⟩
   rw [← hW2]
   exact Array.getElem?_push_size
  have HS0:Hid (StrV W0 (.slice pr nr cr) rs):=HO1.out.2.1
  obtain ⟨b6,e6⟩:∃ b,w1.heap.size=b:=⟨_,rfl⟩
  have HB6:Hid (W0.heap.size≤b6):=by show _≤_;rw [← e6];exact HO1.out.2.2.size
  rw [e6] at HI2 ⊢
  clear hW2 HO1 HX1 hzw1 e6 hna hna0
  go_loopg [5] nr (fun gg u wr=>∃ (us:List ByteArray) (acc:List Ly) (vL:Value),gg=us.length∧us.length+acc.length≤1073741823∧Hid (StrV W0 u us∧Below W0.heap.size W0 wr∧OwnK .i64 3 wr W0.heap.size (.slice pa na ca) D)∧Hid (wr.heap[b6]?=some (.cells #[.slice pa na ca,vL] 26 (0,0))∧LyO wr W0.heap.size vL acc)∧Hid (R=(parL us.length us).map fun ls=>(D,acc++ls)))
  case atStart=>exact ⟨rs,[],_,hnr.symm,by simpa using hrb,⟨HS0.out,HI2.out.1,HI2.out.2.2⟩,⟨HI2.out.2.1,LyO.nil _ _⟩,by show _=_;rw [HR.out];simp⟩
  case round=>
   obtain ⟨us,acc,vL,hg,hub,HI,HL,HR2⟩:=hrel
   obtain ⟨pu,nu,cu,rfl,hnu⟩:=HI.out.1.form
   obtain ⟨pL,cL,evL,_⟩:=HL.out.2.rd
   obtain ⟨nL,enL⟩:∃ n,acc.length=n:=⟨_,rfl⟩
   rw [enL] at evL
   subst evL
   have HX:=(HI.out.2.1.block _ hz2).trans HX0.out
   cases us with
   | nil=>
    obtain rfl:nu=0:=by simpa using hnu.symm
    have eR':R=some (D,acc):=by rw [HR2.out];simp [parL]
    subst eR'
    obtain ⟨⟨x0,y0⟩,⟨x1,y1⟩⟩:=box_2 HX
    obtain ⟨⟨b0,_⟩,⟨b1,_⟩⟩:=box_2 HL.out.1
    have HXX:Hid (wr.heap[w.heap.size]?=some (.cells #[.slice none 0 0,.slice none 0 0] 26 (0,0))):=HX
    clear HX HR2 HR
    go_wp2
    generalize hU:World.setCell _ _ _=U
    obtain ⟨u0,u1,hBU,hOU⟩:=two_set HXX.out hU
    have hL2:LyO U w.heap.size (.slice pL nL cL) acc:=by
     have:=(HL.out.2.only hOU (by decide))
     exact ⟨this.1,this.2.imp id fun ⟨g,cap,cur,e1,e2,e3⟩=>⟨g,cap,cur,e1,Nat.le_trans (Nat.le_of_lt hz2) e2,e3⟩⟩
    exact bodyPost_ret (v:=.tuple #[.agg #[.slice pa na ca,.slice pL nL cL],.bool true]) (by simp [results,Tryz.results32,go_sem,u0,u1]) rfl ⟨_,rfl,⟨_,_,_,_,_,_,rfl,(HI.out.2.2.only hOU (by decide)).low (Nat.le_of_lt hz2),hL2⟩,hBU w _ (Nat.le_refl _) (bstep HB0.out HI.out.2.1)⟩
   | cons u us=>
    obtain rfl:nu=us.length+1:=by simpa using hnu.symm
    have hnu0:(0:Int) < ((us.length+1:Nat):Int):=by omega
    obtain ⟨pp,cc,e,hcc,hcell⟩:=HI.out.1
    cases e
    obtain ⟨q,o,rfl,h0⟩:=hcell 0 (by simp)
    rw [Nat.add_zero] at h0
    have h00:wr.cell? ⟨q,o,none⟩=some (.string u):=still_cell HI.out.2.1 h0
    have hz:=cell_size h00
    clear h0 hcell
    obtain ⟨p',n',c',es,hcut⟩:=cutS HI.out.1
    have hrun:=cutS_run (some ⟨q,o,none⟩) (us.length+1) cu (by omega)
    rw [es] at hrun
    have HCut:Hid (StrV W0 (.slice p' n' c') us):=hcut
    clear hcut es
    have ck:=kindOf_any u wr (Hid.up_kz (Hid.up_kz hK HB0.out) HI.out.2.1)
    obtain ⟨kd,ekd⟩:∃ k,kindI u=k:=⟨_,rfl⟩
    have hk2:kCnt kd≤2:=by unfold kCnt;split <;> (try split) <;> omega
    have HKD:Hid (kindI u=kd∧kCnt kd≤2):=⟨ekd,hk2⟩
    rw [ekd] at ck
    clear hk2
    go_wp2_with fail
    refine ck.mono ?_
    rintro e w3 ⟨rfl,hB3⟩
    have hb2:Below W0.heap.size W0 w3:=bstep HI.out.2.1 hB3
    have HX3:Hid (w3.heap[w.heap.size]?=some (.cells #[.slice none 0 0,.slice none 0 0] 26 (0,0))):=(hb2.block _ hz2).trans HX0.out
    have HW3:Hid (Below W0.heap.size W0 w3∧Below wr.heap.size wr w3):=⟨hb2,hB3⟩
    clear hb2 hB3 ck h00
    by_cases h5:kd < 5
    case neg=>
     rw [decide_eq_false h5]
     have eR':R=none:=by
      rw [HR2.out,parL_bad (f:=(u :: us).length) (by simp) (.inl (by rw [ekd];have:=kind_le u;omega))]
      rfl
     subst eR'
     obtain ⟨⟨x0,y0⟩,⟨x1,y1⟩⟩:=box_2 HX3.out
     have hzw3:=cell_size x0
     clear HR2 HR ekd
     go_wp2
     generalize hU:World.setCell _ _ _=U
     obtain ⟨u0,u1,hBU,_⟩:=two_set HX3.out hU
     have hzU:=cell_size u0
     exact bodyPost_ret (v:=.tuple #[.agg #[.slice none 0 0,.slice none 0 0],.bool false]) (by simp [results,Tryz.results32,go_sem,u0,u1,hzU]) rfl ⟨_,rfl,rfl,(hBU w _ (Nat.le_refl _) (bstep HB0.out HW3.out.1)).alloc (Nat.le_of_lt hzU) _⟩
    rw [decide_eq_true h5]
    obtain ⟨X,eX⟩:∃ X,numsA us (kCnt kd)=X:=⟨_,rfl⟩
    obtain ⟨cn,ecn⟩:∃ c,kCnt kd=c:=⟨_,rfl⟩
    have HKN:Hid (kName kd=u):=by show _=_;rw [← ekd];exact kind_name u (by omega)
    have HXX:Hid (numsA us (kCnt (kindI u))=X∧kCnt (kindI u)=cn∧X.1.length≤2∧X.2.length+X.1.length=us.length∧kindI u < 5):=by
     have h1:=numsA_len us (kCnt kd)
     rw [eX] at h1
     exact ⟨by rw [ekd];exact eX,by rw [ekd];exact ecn,by have:=HKD.out.2;omega,h1.2,by omega⟩
    rw [ecn]
    generalize kTopA kd=tA
    generalize kTopB kd=tB
    generalize kName kd=nm at HKN ⊢
    have cN:Hid (∀ W,Below W0.heap.size W0 W→Calls Tryz.prog 59 #[.slice p' n' c',.int .i64 (cn:Int)] W fun e w'=>∃ v1 v2,e = .returned (.tuple #[v1,v2])∧OwnK .i64 3 w' W.heap.size v1 X.1∧StrV W0 v2 X.2∧Below W.heap.size W w'):=fun W hW=>by
     have:=numbersAhead_any (.slice p' n' c') us (kCnt kd) HKD.out.2 W0 W hW HCut.out
     rw [eX,ecn] at this
     exact this
    clear eX ecn HKD h5 ekd HR
    go_wp2
    generalize hW4:World.alloc _ _=W4
    have HB4:Hid (Below w3.heap.size w3 W4∧Below W0.heap.size W0 W4):=by
     have hb:Below w3.heap.size w3 W4:=by rw [← hW4];exact up_alloc w3 _
     exact ⟨hb,bstep HW3.out.1 hb⟩
    have HK4:Hid (W4.heap[w3.heap.size]?=some (.cells #[.string nm,.int .i64 (cn:Int),.int .i64 tA,.int .i64 tB] 114 (0,0))):=by
     show _=_
     rw [← hW4]
     exact Array.getElem?_push_size
    obtain ⟨_,k1,_,_⟩:=box_4 HK4.out
    have hz4:=cell_size k1
    clear hW4
    refine relM [⟨4,50,NumP W0 W4.heap.size X⟩,⟨5,45,NumP W0 W4.heap.size X⟩,⟨6,51,OutV (some X.1) W4.heap.size⟩,⟨7,52,StrP W0 X.2⟩] 8 68 (by kernel_rfl) rfl rfl [7] (by kernel_rfl) (by kernel_rfl) (fun i0 hi o0 ho c a w v h=>?_) (by rfl) ?_ ?_
    ·simp only [List.mem_cons,List.not_mem_nil,or_false] at hi
     subst hi
     cases ho
     exact h
    ·intro e he v W W' h hb
     simp only [List.mem_cons,List.not_mem_nil,or_false] at he
     rcases he with rfl|rfl|rfl|rfl
     ·exact NumP.up h hb
     ·exact NumP.up h hb
     ·exact OutV.up (x:=some X.1) h hb
     ·exact h
    apply Exists.intro
    refine ⟨?yt1,?yl1,?wk1,?pk1,?rest1⟩
    case wk1=>
     intro x
     simp only [List.take_succ_cons,List.take_zero]
     iterate 4
      refine relQuiet rfl rfl ?_
      apply Exists.intro
      refine ⟨fun F hF hf K hK=>?_,?_⟩
      ·have hFc:=hF.cell
       have hFf:=hF.frozen
       go_big_quiet_op
       first|exact hK|(apply Exists.intro;refine ⟨fun _=>?_,?_⟩;(· fail);exact hK)
      (try simp only [Act.put,List.setIfInBounds_toArray,List.set_cons_zero,List.set_cons_succ])
     refine relTold rfl rfl ?_ ?_
     ·intro F hF hf d
      have hFc:=hF.cell
      have hFf:=hF.frozen
      simp [yieldsR,yieldsUpon,go_sem]
      have hb9:=hF.below d
      refine (cN.out (F d) (bstep HB4.out.2 hb9)).mono ?_
      rintro e' w8 ⟨v8,u8,rfl,h8,h8',hB8⟩
      exact ⟨_,rfl,⟨v8,u8,rfl,h8.low hb9.size,h8'⟩,hB8⟩
     (try simp only [Act.put,List.setIfInBounds_toArray,List.set_cons_zero,List.set_cons_succ])
     refine relTold rfl rfl ?_ ?_
     ·intro F hF hf d
      have hFc:=hF.cell
      have hFf:=hF.frozen
      simp [yieldsR,yieldsUpon,go_sem]
      exact ⟨hf _ List.mem_cons_self (by rfl) d,Below.refl _ _⟩
     (try simp only [Act.put,List.setIfInBounds_toArray,List.set_cons_zero,List.set_cons_succ])
     refine relTold rfl rfl ?_ ?_
     ·intro F hF hf d
      have hFc:=hF.cell
      have hFf:=hF.frozen
      obtain ⟨v9,u9,e9,h9,-⟩:=hf _ (List.mem_cons_of_mem _ List.mem_cons_self) (by rfl) d
      simp only [] at e9
      simp [yieldsR,yieldsUpon,go_sem,e9]
      obtain ⟨pp9,nn9,cc9,ee9,_⟩:=h9.nums.lst
      subst ee9
      exact ⟨⟨_,_,_,rfl,h9⟩,Below.refl _ _⟩
     (try simp only [Act.put,List.setIfInBounds_toArray,List.set_cons_zero,List.set_cons_succ])
     refine relTold rfl rfl ?_ ?_
     ·intro F hF hf d
      have hFc:=hF.cell
      have hFf:=hF.frozen
      obtain ⟨v9,u9,e9,-,h9⟩:=hf _ (List.mem_cons_of_mem _ List.mem_cons_self) (by rfl) d
      simp only [] at e9
      simp [yieldsR,yieldsUpon,go_sem,e9]
      exact ⟨h9,Below.refl _ _⟩
     (try simp only [Act.put,List.setIfInBounds_toArray,List.set_cons_zero,List.set_cons_succ])
     refine relEnd ?_
     exact rfl
    case pk1=>
     intro x
     simp only [putsK,List.foldl_cons,List.foldl_nil,Act.put,List.setIfInBounds_toArray,List.set_cons_zero,List.set_cons_succ]
    case yt1=>
     intro i0 hi o0 ho e he W x hx
     simp only [List.mem_cons,List.not_mem_nil,or_false] at hi
     subst hi
     cases ho
     have he':(⟨7,52,StrP W0 X.2⟩:Told)=e:=Option.some.inj he
     subst he'
     obtain ⟨v9,u9,e9,-,o9⟩:=hx _ (List.mem_cons_of_mem _ List.mem_cons_self) (by rfl)
     simp only [] at e9
     refine ⟨u9,o9,.inl ⟨by rfl,fun w=>?_⟩⟩
     simp [execOp,Act.eval,e9,go_sem]
    case yl1=>
     intro i0 hi o0 ho hn x hx
     simp only [List.mem_cons,List.not_mem_nil,or_false] at hi
     subst hi
     cases hn
    intro w9 xs hB9 hf
    simp only [List.drop_succ_cons,List.drop_zero]
    obtain ⟨p9,n9,c9,e9,hn9⟩:=hf _ (List.mem_cons_of_mem _ (List.mem_cons_of_mem _ List.mem_cons_self))
    have hs8:=hf _ (List.mem_cons_of_mem _ (List.mem_cons_of_mem _ (List.mem_cons_of_mem _ List.mem_cons_self)))
    simp only [] at e9 hn9 hs8
    unfold StrP at hs8
    obtain ⟨x4,e4⟩:∃ q,xs 4=q:=⟨_,rfl⟩
    obtain ⟨x5,e5⟩:∃ q,xs 5=q:=⟨_,rfl⟩
    obtain ⟨u8,e8⟩:∃ q,xs 7=q:=⟨_,rfl⟩
    rw [e8] at hs8
    obtain ⟨p8,n8,c8,eu8,hl8⟩:=hs8.form
    subst eu8
    simp only [e9,e8,e4,e5]
    have hB9w:Below wr.heap.size wr w9:=bstep HW3.out.2 (bstep HB4.out.1 hB9)
    have HN9:Hid (OwnK .i64 3 w9 W4.heap.size (.slice p9 n9 c9) X.1∧StrV W0 (.slice p8 n8 c8) X.2):=⟨hn9,hs8⟩
    have HI9:Hid (Below W0.heap.size W0 w9∧OwnK .i64 3 w9 W0.heap.size (.slice pa na ca) D):=⟨bstep HB4.out.2 hB9,HI.out.2.2.up hB9w⟩
    have HL9:Hid (w9.heap[b6]?=some (.cells #[.slice pa na ca,.slice pL nL cL] 26 (0,0))∧w9.ownsRow W0.heap.size 73 3 (.slice pL nL cL) nL (acc.flatMap lyC)):=⟨(hB9w.block _ (heap_lt HL.out.1)).trans HL.out.1,by have:=HL.out.2.up hB9w;unfold LyO at this;rw [enL] at this;exact this⟩
    have HK9:Hid (w9.heap[w3.heap.size]?=some (.cells #[.string nm,.int .i64 (cn:Int),.int .i64 tA,.int .i64 tB] 114 (0,0))):=(hB9.block _ hz4).trans HK4.out
    have HX9:Hid (w9.heap[w.heap.size]?=some (.cells #[.slice none 0 0,.slice none 0 0] 26 (0,0))):=(HI9.out.1.block _ hz2).trans HX0.out
    obtain ⟨_,k1,_,_⟩:=box_4 HK9.out
    have hn9l:Hid (X.1.length=n9):=by
     show _=_
     obtain ⟨_,_,_,e,h⟩:=hn9.nums.lst
     cases e
     exact h.out.1
    clear hf hB9 hB9w hn9 hs8 e9 e8 e4 e5 cN hrun HB4 HK4 HX3 HI HL HW3
    by_cases hnc:n9=cn
    case neg=>
     have hnc':((n9:Int) != (cn:Int))=true:=by simpa using (show (n9:Int)≠(cn:Int) by omega)
     have hnc2:¬ ((n9:Int)=(cn:Int)):=by omega
     have eR':R=none:=by
      rw [HR2.out,parL_bad (f:=(u :: us).length) (by simp) (.inr (by rw [HXX.out.1,HXX.out.2.1,hn9l.out];exact hnc))]
      rfl
     subst eR'
     obtain ⟨⟨x0,y0⟩,⟨x1,y1⟩⟩:=box_2 HX9.out
     clear HR2
     go_wp2
     generalize hU:World.setCell _ _ _=U
     obtain ⟨u0,u1,hBU,_⟩:=two_set HX9.out hU
     exact bodyPost_ret (v:=.tuple #[.agg #[.slice none 0 0,.slice none 0 0],.bool false]) (by simp [results,Tryz.results32,go_sem,u0,u1]) rfl ⟨_,rfl,rfl,hBU w _ (Nat.le_refl _) (bstep HB0.out HI9.out.1)⟩
    subst hnc
    obtain ⟨a,ea⟩:∃ a,X.1.getD 0 0=a:=⟨_,rfl⟩
    obtain ⟨b,eb⟩:∃ a,X.1.getD 1 0=a:=⟨_,rfl⟩
    have HR3:Hid (R=(parL X.2.length X.2).map fun ls=>(D,(acc++[(u,a,b)])++ls)):=by
     show _=_
     rw [HR2.out,parL_map (f:=(u :: us).length) (by simp) HXX.out.2.2.2.2 HXX.out.1 (by rw [HXX.out.2.1];exact hn9l.out),ea,eb,Option.map_map]
     simp [Function.comp_def]
    have cLy:Hid (∀ W,Only [73] w9 W→Calls Tryz.prog 61 #[.agg #[.string nm,.int .i64 (n9:Int),.int .i64 tA,.int .i64 tB],.slice p9 n9 c9] W fun e w'=>e = .returned (.agg #[.string u,.int .i64 a,.int .i64 b])∧Below W.heap.size W w'):=fun W hW=>by
     have:=layerOf_any nm n9 tA tB X.1 HXX.out.2.2.1 p9 n9 c9 W (HN9.out.1.only hW (by decide)).nums
     rw [ea,eb] at this
     rw [← HKN.out]
     exact this
    have hxl:Hid (X.2.length+X.1.length=us.length):=HXX.out.2.2.2.1
    simp only [List.length_cons] at hub hg
    have HGO:Hid (∀ W,w9.grownBy W (Value.ownBlock (.slice pL nL cL))→Only [73] w9 W):=fun W hW=>grown_only HL9.out.2 hW
    have HRW:Hid (∀ z,Value.ownBlock (.slice pL nL cL)=some z→z < w9.heap.size):=fun z hz'=>(World.ownsRow.lt HL9.out.2 z hz').2
    have hB0w9:=HI9.out.1.size
    clear ea eb HR2 HKN
    go_wp2
    refine from_region (by kernel_rfl) ?_
    refine seg (fun q W=>match q with|false=>Below w9.heap.size w9 W|true=>w9.grownBy W (Value.ownBlock (.slice pL nL cL))) (fun W W'=>W.grownBy W' (Value.ownBlock (.slice pL nL cL))) 6 [⟨5,64,LitS 73 w9.heap.size [.string u,.int .i64 a,.int .i64 b]⟩,⟨6,65,OwnG 73 3 W0.heap.size (nL+1) (acc.flatMap lyC++[.string u,.int .i64 a,.int .i64 b])⟩] 0 8 68 rfl rfl (by kernel_rfl) (by rfl) ?_ ?_ ?_ ?_ ?_ ?_
    ·intro q W W' h hb
     cases q
     ·exact bstep h hb
     ·exact grown_up h hb
    ·exact ⟨rfl,rfl,rfl,Nat.le_refl _,fun _ _=>rfl⟩
    ·exact .inl ⟨_,List.mem_cons_of_mem _ List.mem_cons_self,rfl⟩
    ·intro e he v W W' h hb
     simp only [List.mem_cons,List.not_mem_nil,or_false] at he
     rcases he with rfl|rfl
     ·exact LitS.up h hb
     ·exact OwnG.up h hb
    ·intro e he hne v W W' h hc ht
     simp only [List.mem_cons,List.not_mem_nil,or_false] at he
     rcases he with rfl|rfl
     ·exact LitS.grown h ht HRW.out
     ·exact absurd rfl hne
    apply Exists.intro
    refine ⟨fun x=>?_,?_,?_⟩
    ·simp only [List.drop_succ_cons,List.drop_zero,List.take_succ_cons,List.take_zero]
     refine segQuiet rfl rfl ?_
     apply Exists.intro
     refine ⟨fun b' F hF hf K hK=>?_,?_⟩
     ·have hFc:=hF.cls
      go_big_quiet_op
      first|exact hK|(apply Exists.intro;refine ⟨fun _=>?_,?_⟩;(· fail);exact hK)
     (try simp only [Act.put,List.setIfInBounds_toArray,List.set_cons_zero,List.set_cons_succ])
     refine segQuiet rfl rfl ?_
     apply Exists.intro
     refine ⟨fun b' F hF hf K hK=>?_,?_⟩
     ·have hFc:=hF.cls
      have q0:∀ d,Only [73] w9 (F d):=fun d=>HGO.out _ (by
       cases b'
       ·exact below_grown _ (hFc d)
       ·exact hFc d)
      have q1:=fun d=>(box_2 ((q0 d).keep HL9.out.1 (by decide))).2.1
      clear hFc q0
      go_big_quiet_op
      first|exact hK|(apply Exists.intro;refine ⟨fun _=>?_,?_⟩;(· fail);exact hK)
     (try simp only [Act.put,List.setIfInBounds_toArray,List.set_cons_zero,List.set_cons_succ])
     refine segQuiet rfl rfl ?_
     apply Exists.intro
     refine ⟨fun b' F hF hf K hK=>?_,?_⟩
     ·have hFc:=hF.cls
      have q0:∀ d,Only [73] w9 (F d):=fun d=>HGO.out _ (by
       cases b'
       ·exact below_grown _ (hFc d)
       ·exact hFc d)
      have q1:=fun d=>(box_4 ((q0 d).keep HK9.out (by decide))).1
      have q2:=fun d=>(box_4 ((q0 d).keep HK9.out (by decide))).2.1
      have q3:=fun d=>(box_4 ((q0 d).keep HK9.out (by decide))).2.2.1
      have q4:=fun d=>(box_4 ((q0 d).keep HK9.out (by decide))).2.2.2
      clear hFc q0
      go_big_quiet_op
      first|exact hK|(apply Exists.intro;refine ⟨fun _=>?_,?_⟩;(· fail);exact hK)
     (try simp only [Act.put,List.setIfInBounds_toArray,List.set_cons_zero,List.set_cons_succ])
     refine segQuiet rfl rfl ?_
     apply Exists.intro
     refine ⟨fun b' F hF hf K hK=>?_,?_⟩
     ·have hFc:=hF.cls
      go_big_quiet_op
      first|exact hK|(apply Exists.intro;refine ⟨fun _=>?_,?_⟩;(· fail);exact hK)
     (try simp only [Act.put,List.setIfInBounds_toArray,List.set_cons_zero,List.set_cons_succ])
     refine segQuiet rfl rfl ?_
     apply Exists.intro
     refine ⟨fun b' F hF hf K hK=>?_,?_⟩
     ·have hFc:=hF.cls
      have q0:∀ d,Only [73] w9 (F d):=fun d=>HGO.out _ (by
       cases b'
       ·exact below_grown _ (hFc d)
       ·exact hFc d)
      go_big_quiet_op
      first|exact hK|(apply Exists.intro;refine ⟨fun _=>?_,?_⟩;(· exact hF.call (cLy.out _ (q0 _)));exact hK)
     (try simp only [Act.put,List.setIfInBounds_toArray,List.set_cons_zero,List.set_cons_succ])
     refine segTold rfl (by decide) rfl ?_ ?_
     ·intro b' F hF hf d
      have hFc:=hF.cls
      have hcls:w9.heap.size≤(F d).heap.size:=by
       cases b'
       ·exact (hFc d).size
       ·exact (hFc d).size
      simp [yieldsR,yieldsUpon,go_sem]
      exact ⟨⟨(F d).heap.size,rfl,heap_alloc_new (F d) _,hcls⟩,up_alloc _ _⟩
     (try simp only [Act.put,List.setIfInBounds_toArray,List.set_cons_zero,List.set_cons_succ])
     refine segBusy rfl rfl rfl ?_ ?_
     ·intro W hW hf
      have h7:=hf _ List.mem_cons_self (by rfl) W
      obtain ⟨g7,e7,hg7,_⟩:=h7
      simp only [] at e7
      obtain ⟨g8,c8,w8,hr8,ho8,hgr8⟩:=appGr layT (by decide) (by decide) 24 W W0.heap.size (.slice pL nL cL) nL (acc.flatMap lyC) (owns_only (S:=[]) HL9.out.2 (Only.of hW) (by simp)) g7 [.string u,.int .i64 a,.int .i64 b] hg7 rfl (fun x hx=>by simp at hx;rcases hx with rfl|rfl|rfl <;> rfl) (by omega) (Nat.le_trans hB0w9 (Below.size hW))
      simp [leavesR,leavesUpon,execOp,resolve,invoke,builtin,Act.eval,e7,hr8,Result.andThen]
      exact ⟨⟨g8,c8,rfl,ho8⟩,grown_trans (below_grown _ hW) hgr8,hgr8⟩
     (try simp only [Act.put,List.setIfInBounds_toArray,List.set_cons_zero,List.set_cons_succ])
     refine segQuiet rfl rfl ?_
     apply Exists.intro
     refine ⟨fun b' F hF hf K hK=>?_,?_⟩
     ·have hFc:=hF.cls
      go_big_quiet_op
      first|exact hK|(apply Exists.intro;refine ⟨fun _=>?_,?_⟩;(· fail);exact hK)
     (try simp only [Act.put,List.setIfInBounds_toArray,List.set_cons_zero,List.set_cons_succ])
     refine segEnd ?_
     exact rfl
    ·exact fun x=>rfl
    ·intro w8 xs8 hC8 hf8
     refine from_list 8 (by kernel_rfl) ?_
     simp only [List.drop_succ_cons,List.drop_zero]
     have h8:=hf8 _ (List.mem_cons_of_mem _ List.mem_cons_self)
     obtain ⟨x5,e5⟩:∃ z,xs8 5=z:=⟨_,rfl⟩
     obtain ⟨x6,e6⟩:∃ z,xs8 6=z:=⟨_,rfl⟩
     simp only [e6] at h8
     simp only [e5,e6]
     obtain ⟨g8,c88,rfl,h8⟩:=h8
     have hO8:=HGO.out w8 hC8
     have hv8:=hO8.keep HL9.out.1 (by decide)
     obtain ⟨_,⟨r0,r1⟩⟩:=box_2 hv8
     have HF:Hid (StrV W0 (.slice p8 n8 c8) X.2∧Below W0.heap.size W0 (w8.setCell ⟨b6,1,none⟩ (.slice (some ⟨g8,0,none⟩) (nL+1) c88))∧OwnK .i64 3 (w8.setCell ⟨b6,1,none⟩ (.slice (some ⟨g8,0,none⟩) (nL+1) c88)) W0.heap.size (.slice pa na ca) D):=by
      refine ⟨HN9.out.2,(Below.grown HI9.out.1 hC8 hB0w9 fun k hk=>(World.ownsRow.lt HL9.out.2 k hk).1).setCell (p:=⟨b6,1,none⟩) HB6.out _,(HI9.out.2.only hO8 (by decide)).only (Only.set (S:=[26]) hv8 (by simp)) (by decide)⟩
     have HF2:Hid ((w8.setCell ⟨b6,1,none⟩ (.slice (some ⟨g8,0,none⟩) (nL+1) c88)).heap[b6]?=some (.cells #[.slice pa na ca,.slice (some ⟨g8,0,none⟩) (nL+1) c88] 26 (0,0))∧LyO (w8.setCell ⟨b6,1,none⟩ (.slice (some ⟨g8,0,none⟩) (nL+1) c88)) W0.heap.size (.slice (some ⟨g8,0,none⟩) (nL+1) c88) (acc++[(u,a,b)])):=by
      refine ⟨by rw [heap_setat hv8];rfl,?_⟩
      unfold LyO
      rw [List.length_append,enL,List.flatMap_append]
      exact owns_only (S:=[26]) h8 (Only.set hv8 (by simp)) (by decide)
     have hxl':=hxl.out
     have hub2:X.2.length+(acc++[(u,a,b)]).length≤1073741823:=by simp;omega
     have HUB2:Hid (X.2.length+(acc++[(u,a,b)]).length≤1073741823∧X.2.length < us.length+1):=⟨hub2,by omega⟩
     clear hxl' hO8 hv8 h8 hf8 hC8 hub2 e5 e6
     go_wp2
     go_roundg X.2.length
     case measure=>have:=HUB2.out.2;omega
     case rel=>exact ⟨X.2,acc++[(u,a,b)],_,rfl,HUB2.out.1,HF,HF2,HR3⟩
/-- What a run may change: nothing below B, and of the rest only blocks of a tape and of a plan. -/
abbrev S4:List TypeId:=[95,65,137,134]
abbrev S2:List TypeId:=[137,134]
structure Rn (B:Nat) (W W':World):Prop where
 bel:Below B W W'
 onl:Only S2 W W'
theorem Rn.refl (B:Nat) (W:World):Rn B W W:=⟨Below.refl _ _,Only.refl _ _⟩
theorem Rn.trans {B:Nat} {a b c:World} (h:Rn B a b) (h2:Rn B b c):Rn B a c:=⟨h.bel.trans h2.bel,h.onl.trans h2.onl⟩
theorem Rn.of {B:Nat} {a b:World} (hB:B≤a.heap.size) (h:Below a.heap.size a b):Rn B a b:=⟨h.mono hB,Only.of h⟩
theorem Rn.size {B:Nat} {a b:World} (h:Rn B a b):a.heap.size≤b.heap.size:=h.onl.1
structure R4 (B:Nat) (W W':World):Prop where
 bel:Below B W W'
 onl:Only S4 W W'
theorem R4.refl (B:Nat) (W:World):R4 B W W:=⟨Below.refl _ _,Only.refl _ _⟩
theorem R4.trans {B:Nat} {a b c:World} (h:R4 B a b) (h2:R4 B b c):R4 B a c:=⟨h.bel.trans h2.bel,h.onl.trans h2.onl⟩
theorem R4.of {B:Nat} {a b:World} (hB:B≤a.heap.size) (h:Below a.heap.size a b):R4 B a b:=⟨h.mono hB,Only.of h⟩
theorem R4.size {B:Nat} {a b:World} (h:R4 B a b):a.heap.size≤b.heap.size:=h.onl.1
theorem Rn.r4 {B:Nat} {a b:World} (h:Rn B a b):R4 B a b:=⟨h.bel,h.onl.more (by simp)⟩
/-- Numbers that a run leaves as they are. -/
def Kept (B:Nat) (W:World) (v:Value) (l:List Int):Prop:=∀ W',R4 B W W'→Nums .i64 W' v l
theorem Kept.up {B:Nat} {W W':World} {v:Value} {l:List Int} (h:Kept B W v l) (hR:Rn B W W'):Kept B W' v l:=fun W2 h2=>h W2 (hR.r4.trans h2)
theorem Kept.nums {B:Nat} {W:World} {v:Value} {l:List Int} (h:Kept B W v l):Nums .i64 W v l:=h W (R4.refl _ _)
theorem OwnK.kept {e:TypeId} {B B':Nat} {W:World} {v:Value} {l:List Int} (h:OwnK .i64 e W B' v l) (he:e∉S4):Kept B W v l:=fun W' hR=>(h.only hR.onl he).nums
theorem Kept.below {B:Nat} {w W:World} {v:Value} {l:List Int} (h:Nums .i64 w v l) (hB:w.heap.size≤B) (hW:Below B w W):Kept B W v l:=fun W' hR=>h.up ((hW.trans hR.bel).mono hB)
/-- A step of a plan. -/
structure Sp where
 op:Int
 a:Int
 b:Int
 k:Int
 D:List Int
 X:List Int
 par:Bool
def StC (B:Nat) (W:World) (st:Sp) (u:List Value):Prop:=∃ p n c p2 n2 c2,u = [.int .i64 st.op,.int .i64 st.a,.int .i64 st.b,.int .i64 st.k,.slice p n c,.slice p2 n2 c2,.bool st.par]∧Kept B W (.slice p n c) st.D∧Kept B W (.slice p2 n2 c2) st.X
def StsC (B:Nat) (W:World) (sts:List Sp) (xs:List Value):Prop:=xs.length=sts.length*7∧∀ i st,sts[i]?=some st→StC B W st ((xs.drop (i*7)).take 7)
theorem StC.up {B:Nat} {W W':World} {st:Sp} {u:List Value} (h:StC B W st u) (hR:Rn B W W'):StC B W' st u:=by
 obtain ⟨p,n,c,p2,n2,c2,e,h1,h2⟩:=h
 exact ⟨p,n,c,p2,n2,c2,e,h1.up hR,h2.up hR⟩
theorem StsC.up {B:Nat} {W W':World} {sts:List Sp} {xs:List Value} (h:StsC B W sts xs) (hR:Rn B W W'):StsC B W' sts xs:=⟨h.1,fun i st hi=>(h.2 i st hi).up hR⟩
theorem StC.len {B:Nat} {W:World} {st:Sp} {u:List Value} (h:StC B W st u):u.length=7:=by
 obtain ⟨p,n,c,p2,n2,c2,rfl,_⟩:=h
 rfl
theorem StC.one {B:Nat} {W:World} {st:Sp} {u:List Value} (h:StC B W st u):∀ x∈u,x.oneCell'=true:=by
 obtain ⟨p,n,c,p2,n2,c2,rfl,_⟩:=h
 intro x hx
 simp at hx
 rcases hx with rfl|rfl|rfl|rfl|rfl|rfl|rfl <;> rfl
theorem StsC.push {B:Nat} {W:World} {sts:List Sp} {xs:List Value} {st:Sp} {u:List Value} (h:StsC B W sts xs) (hu:StC B W st u):StsC B W (sts++[st]) (xs++u):=by
 refine ⟨by rw [List.length_append,List.length_append,h.1,hu.len];simp;omega,fun i s hi=>?_⟩
 rcases Nat.lt_or_ge i sts.length with h1|h1
 ·rw [List.getElem?_append_left h1] at hi
  have h2:=h.2 i s hi
  have h3:=h.1
  rw [List.drop_append_of_le_length (by omega),List.take_append_of_le_length (by rw [List.length_drop];omega)]
  exact h2
 ·have hi':i=sts.length:=by
   have:=(List.getElem?_eq_some_iff.1 hi).1
   simp at this
   omega
  subst hi'
  rw [List.getElem?_append_right (Nat.le_refl _)] at hi
  simp at hi
  subst hi
  rw [← h.1,List.drop_left,List.take_of_length_le (by rw [hu.len];exact Nat.le_refl _)]
  exact hu
theorem StsC.nil (B:Nat) (W:World):StsC B W [] []:=⟨rfl,fun i st h=>by simp at h⟩
/-- A plan under way; what its steps name lay there in the world Wa. -/
def PlanO (B:Nat) (Wa W:World) (pb:Nat) (sts:List Sp) (rest:List Int):Prop:=B≤pb∧Rn B Wa W∧∃ p n c p2 n2 c2 xs,W.heap[pb]?=some (.cells #[.slice p n c,.slice p2 n2 c2] 134 (0,0))∧W.ownsRow B 137 7 (.slice p n c) sts.length xs∧sts.length=n∧StsC B Wa sts xs∧Kept B Wa (.slice p2 n2 c2) rest∧n2≤c2∧rest.length=n2
theorem PlanO.up {B:Nat} {Wa W W':World} {pb:Nat} {sts:List Sp} {rest:List Int} (h:PlanO B Wa W pb sts rest) (hB:Below W.heap.size W W'):PlanO B Wa W' pb sts rest:=by
 obtain ⟨hb,hr,p,n,c,p2,n2,c2,xs,h1,h2,h3⟩:=h
 exact ⟨hb,hr.trans (Rn.of (Nat.le_trans hb (Nat.le_of_lt (heap_lt h1))) hB),p,n,c,p2,n2,c2,xs,(hB.block _ (heap_lt h1)).trans h1,owns_only (S:=[]) h2 (Only.of hB) (by simp),h3⟩
theorem PlanO.on {B:Nat} {Wa W:World} {pb:Nat} {sts:List Sp} {rest:List Int} (h:PlanO B Wa W pb sts rest):PlanO B W W pb sts rest:=by
 obtain ⟨hb,hr,p,n,c,p2,n2,c2,xs,h1,h2,h3,h4,h5,h6⟩:=h
 exact ⟨hb,Rn.refl _ _,p,n,c,p2,n2,c2,xs,h1,h2,h3,h4.up hr,h5.up hr,h6⟩
theorem PlanO.size {B:Nat} {Wa W:World} {pb:Nat} {sts:List Sp} {rest:List Int} (h:PlanO B Wa W pb sts rest):B≤W.heap.size:=by
 obtain ⟨hb,hr,p,n,c,p2,n2,c2,xs,h1,_⟩:=h
 exact Nat.le_trans hb (Nat.le_of_lt (heap_lt h1))
theorem stpT:GT Tryz.prog 96 137 7 88:=⟨Tryz.underlying96,by kernel_rfl⟩
theorem box_7 {W:World} {b:Nat} {v0 v1 v2 v3 v4 v5 v6:Value} {e:TypeId} (h:W.heap[b]?=some (.cells #[v0,v1,v2,v3,v4,v5,v6] e (0,0))):W.cell? ⟨b,0,none⟩=some v0∧W.cell? ⟨b,1,none⟩=some v1∧W.cell? ⟨b,2,none⟩=some v2∧W.cell? ⟨b,3,none⟩=some v3∧W.cell? ⟨b,4,none⟩=some v4∧W.cell? ⟨b,5,none⟩=some v5∧W.cell? ⟨b,6,none⟩=some v6:=by
 simp [World.cell?,h]
theorem own_ne {B n s b:Nat} {W:World} {v:Value} {xs:List Value} {e t:TypeId} {cs:Array Value} {fz:Nat×Nat} (h:W.ownsRow B e s v n xs) (hb:W.heap[b]?=some (.cells cs t fz)) (hne:e≠t):some b≠v.ownBlock:=by
 rcases h.2 with ⟨rfl,_⟩|⟨g,cap,cur,rfl,_,hc,_⟩
 ·intro h;cases h
 ·intro h
  cases h
  rw [hc] at hb
  cases hb
  exact hne rfl
theorem padd_any (B pb:Nat) (sts:List Sp) (rest:List Int) (hfew:sts.length≤200) (st:Sp) (p:Option Addr) (n c:Nat) (p2:Option Addr) (n2 c2:Nat) (wa w:World) (hP:PlanO B wa w pb sts rest) (h1:Kept B wa (.slice p n c) st.D) (h2:Kept B wa (.slice p2 n2 c2) st.X):
  Calls Tryz.prog 76 #[.pointer (some ⟨pb,0,none⟩),.agg #[.int .i64 st.op,.int .i64 st.a,.int .i64 st.b,.int .i64 st.k,.slice p n c,.slice p2 n2 c2,.bool st.par]] w fun e w'=>e = .returned (.int .i64 (sts.length:Int))∧PlanO B wa w' pb (sts++[st]) rest∧Rn B w w':=by
 obtain ⟨op,a,b,k,D,X,par⟩:=st
 simp only [] at h1 h2 ⊢
 obtain ⟨hBp,hra,pS,nS',cS,pR,nR,cR,xs,hb,ho,hn,hc,hk,hrc,hrl⟩:=hP
 have HRA:Hid (Rn B wa w):=hra
 have hzB:B≤w.heap.size:=Nat.le_trans hBp (Nat.le_of_lt (heap_lt hb))
 obtain ⟨N,eN⟩:∃ N,sts.length=N:=⟨_,rfl⟩
 rw [eN] at ho hn hfew ⊢
 subst hn
 have HP:Hid (B≤pb∧B≤w.heap.size∧w.heap[pb]?=some (.cells #[.slice pS N cS,.slice pR nR cR] 134 (0,0))∧w.ownsRow B 137 7 (.slice pS N cS) N xs∧StsC B wa sts xs∧sts.length=N):=⟨hBp,hzB,hb,ho,hc,eN⟩
 have HQ:Hid (Kept B wa (.slice pR nR cR) rest∧nR≤cR∧rest.length=nR):=⟨hk,hrc,hrl⟩
 have HS:Hid (Kept B wa (.slice p n c) D∧Kept B wa (.slice p2 n2 c2) X):=⟨h1,h2⟩
 clear hBp hb ho hc hk hrc hrl h1 h2 hzB eN hra
 go_enter Tryz.func76,Tryz.ntmps76
 go_wp2_with fail
 refine name_world (fun w6 hw6=>?_)
 have hB6:Below w.heap.size w w6:=by rw [hw6];exact up_alloc _ _
 have HN6:w6.heap[w.heap.size]?=some (.cells #[.int .i64 op,.int .i64 a,.int .i64 b,.int .i64 k,.slice p n c,.slice p2 n2 c2,.bool par] 137 (0,0)):=by rw [hw6];exact heap_alloc_new _ _
 have hR6:Rn B w w6:=Rn.of HP.out.2.1 hB6
 have HU6:Hid (StC B wa ⟨op,a,b,k,D,X,par⟩ [.int .i64 op,.int .i64 a,.int .i64 b,.int .i64 k,.slice p n c,.slice p2 n2 c2,.bool par]):=⟨_,_,_,_,_,_,rfl,HS.out.1,HS.out.2⟩
 have HP6:Hid (w6.heap[pb]?=some (.cells #[.slice pS N cS,.slice pR nR cR] 134 (0,0))∧w6.ownsRow B 137 7 (.slice pS N cS) N xs∧StsC B wa sts xs∧Kept B wa (.slice pR nR cR) rest∧Rn B w w6∧B≤w6.heap.size):=⟨(hB6.block _ (heap_lt HP.out.2.2.1)).trans HP.out.2.2.1,owns_only (S:=[]) HP.out.2.2.2.1 (Only.of hB6) (by simp),HP.out.2.2.2.2.1,HQ.out.1,hR6,Nat.le_trans HP.out.2.1 hB6.size⟩
 have HX6:Hid (w6.heap[w.heap.size]?=some (.cells #[.int .i64 op,.int .i64 a,.int .i64 b,.int .i64 k,.slice p n c,.slice p2 n2 c2,.bool par] 137 (0,0))∧some w.heap.size≠Value.ownBlock (.slice pS N cS)):=⟨HN6,fun h=>by have:=(World.ownsRow.lt HP.out.2.2.2.1 _ h.symm).2;omega⟩
 have HRW:Hid (∀ z,Value.ownBlock (.slice pS N cS)=some z→z < w6.heap.size):=fun z hz'=>Nat.lt_of_lt_of_le (World.ownsRow.lt HP.out.2.2.2.1 z hz').2 hB6.size
 have HU1:Hid (∀ z∈([.int .i64 op,.int .i64 a,.int .i64 b,.int .i64 k,.slice p n c,.slice p2 n2 c2,.bool par]:List Value),z.oneCell'=true):=HU6.out.one
 have HPN:Hid (some pb≠Value.ownBlock (.slice pS N cS)):=own_ne HP6.out.2.1 HP6.out.1 (by decide)
 clear hB6 HN6 hR6 hw6
 refine from_region (by kernel_rfl) ?_
 refine seg (fun q W=>match q with|false=>Below w6.heap.size w6 W|true=>w6.grownBy W (Value.ownBlock (.slice pS N cS))) (fun W W'=>W.grownBy W' (Value.ownBlock (.slice pS N cS))) 7 [⟨6,11,LitS 137 w6.heap.size [.int .i64 op,.int .i64 a,.int .i64 b,.int .i64 k,.slice p n c,.slice p2 n2 c2,.bool par]⟩,⟨7,12,OwnG 137 7 B (N+1) (xs++[.int .i64 op,.int .i64 a,.int .i64 b,.int .i64 k,.slice p n c,.slice p2 n2 c2,.bool par])⟩] 0 10 21 rfl rfl (by kernel_rfl) (by rfl) ?_ ?_ ?_ ?_ ?_ ?_
 ·intro q W W' h hb
  cases q
  ·exact bstep h hb
  ·exact grown_up h hb
 ·exact ⟨rfl,rfl,rfl,Nat.le_refl _,fun _ _=>rfl⟩
 ·exact .inl ⟨_,List.mem_cons_of_mem _ List.mem_cons_self,rfl⟩
 ·intro e he v W W' h hb
  simp only [List.mem_cons,List.not_mem_nil,or_false] at he
  rcases he with rfl|rfl
  ·exact LitS.up h hb
  ·exact OwnG.up h hb
 ·intro e he hne v W W' h hc ht
  simp only [List.mem_cons,List.not_mem_nil,or_false] at he
  rcases he with rfl|rfl
  ·exact LitS.grown h ht HRW.out
  ·exact absurd rfl hne
 apply Exists.intro
 refine ⟨fun x=>?_,?_,?_⟩
 ·simp only [List.drop_succ_cons,List.drop_zero,List.take_succ_cons,List.take_zero]
  iterate 4
   refine segQuiet rfl rfl ?_
   apply Exists.intro
   refine ⟨fun b' F hF hf K hK=>?_,?_⟩
   ·have hFc:=hF.cls
    go_big_quiet_op
    first|exact hK|(apply Exists.intro;refine ⟨fun _=>?_,?_⟩;(· fail);exact hK)
   (try simp only [Act.put,List.setIfInBounds_toArray,List.set_cons_zero,List.set_cons_succ])
  refine segQuiet rfl rfl ?_
  apply Exists.intro
  refine ⟨fun b' F hF hf K hK=>?_,?_⟩
  ·have hFc:=hF.cls
   have q0:∀ d,(F d).cell? ⟨pb,0,none⟩=some (.slice pS N cS):=fun d=>by
    have hK:w6.grownBy (F d) (Value.ownBlock (.slice pS N cS)):=by
     cases b'
     ·exact below_grown _ (hFc d)
     ·exact hFc d
    exact (box_2 ((hK.block _ (heap_lt HP6.out.1) HPN.out).trans HP6.out.1)).1.1
   clear hFc
   go_big_quiet_op
   first|exact hK|(apply Exists.intro;refine ⟨fun _=>?_,?_⟩;(· fail);exact hK)
  (try simp only [Act.put,List.setIfInBounds_toArray,List.set_cons_zero,List.set_cons_succ])
  refine segQuiet rfl rfl ?_
  apply Exists.intro
  refine ⟨fun b' F hF hf K hK=>?_,?_⟩
  ·have hFc:=hF.cls
   have q0:∀ d,(F d).heap[w.heap.size]?=some (.cells #[.int .i64 op,.int .i64 a,.int .i64 b,.int .i64 k,.slice p n c,.slice p2 n2 c2,.bool par] 137 (0,0)):=fun d=>by
    have hK:w6.grownBy (F d) (Value.ownBlock (.slice pS N cS)):=by
     cases b'
     ·exact below_grown _ (hFc d)
     ·exact hFc d
    exact (hK.block _ (heap_lt HX6.out.1) HX6.out.2).trans HX6.out.1
   have q1:=fun d=>(box_7 (q0 d)).1
   have q2:=fun d=>(box_7 (q0 d)).2.1
   have q3:=fun d=>(box_7 (q0 d)).2.2.1
   have q4:=fun d=>(box_7 (q0 d)).2.2.2.1
   have q5:=fun d=>(box_7 (q0 d)).2.2.2.2.1
   have q6:=fun d=>(box_7 (q0 d)).2.2.2.2.2.1
   have q7:=fun d=>(box_7 (q0 d)).2.2.2.2.2.2
   clear hFc q0
   go_big_quiet_op
   first|exact hK|(apply Exists.intro;refine ⟨fun _=>?_,?_⟩;(· fail);exact hK)
  (try simp only [Act.put,List.setIfInBounds_toArray,List.set_cons_zero,List.set_cons_succ])
  refine segTold rfl (by decide) rfl ?_ ?_
  ·intro b' F hF hf d
   have hFc:=hF.cls
   have hcls:w6.heap.size≤(F d).heap.size:=by
    cases b'
    ·exact (hFc d).size
    ·exact (hFc d).size
   simp [yieldsR,yieldsUpon,go_sem]
   exact ⟨⟨(F d).heap.size,rfl,heap_alloc_new (F d) _,hcls⟩,up_alloc _ _⟩
  (try simp only [Act.put,List.setIfInBounds_toArray,List.set_cons_zero,List.set_cons_succ])
  refine segBusy rfl rfl rfl ?_ ?_
  ·intro W hW hf
   have h7:=hf _ List.mem_cons_self (by rfl) W
   obtain ⟨g7,e7,hg7,_⟩:=h7
   simp only [] at e7
   obtain ⟨g8,c8,w8,hr8,ho8,hgr8⟩:=appGr stpT (by decide) (by decide) 96 W B (.slice pS N cS) N xs (owns_only (S:=[]) HP6.out.2.1 (Only.of hW) (by simp)) g7 _ hg7 rfl HU1.out (by omega) (Nat.le_trans HP6.out.2.2.2.2.2 (Below.size hW))
   simp [leavesR,leavesUpon,execOp,resolve,invoke,builtin,Act.eval,e7,hr8,Result.andThen]
   exact ⟨⟨g8,c8,rfl,ho8⟩,grown_trans (below_grown _ hW) hgr8,hgr8⟩
  iterate 2
   (try simp only [Act.put,List.setIfInBounds_toArray,List.set_cons_zero,List.set_cons_succ])
   refine segQuiet rfl rfl ?_
   apply Exists.intro
   refine ⟨fun b' F hF hf K hK=>?_,?_⟩
   ·have hFc:=hF.cls
    go_big_quiet_op
    first|exact hK|(apply Exists.intro;refine ⟨fun _=>?_,?_⟩;(· fail);exact hK)
  (try simp only [Act.put,List.setIfInBounds_toArray,List.set_cons_zero,List.set_cons_succ])
  refine segEnd ?_
  exact rfl
 ·exact fun x=>rfl
 ·intro w8 xs8 hC8 hf8
  refine from_list 10 (by kernel_rfl) ?_
  simp only [List.drop_succ_cons,List.drop_zero]
  have h8:=hf8 _ (List.mem_cons_of_mem _ List.mem_cons_self)
  obtain ⟨x6,e6⟩:∃ z,xs8 6=z:=⟨_,rfl⟩
  obtain ⟨x7,e7⟩:∃ z,xs8 7=z:=⟨_,rfl⟩
  simp only [e7] at h8
  simp only [e6,e7]
  obtain ⟨g8,c8,rfl,h8⟩:=h8
  have hC8':w6.grownBy w8 (Value.ownBlock (.slice pS N cS)):=hC8
  have hO8:Only S2 w6 w8:=(grown_only HP6.out.2.1 hC8').more (by simp)
  have hR8:Rn B w6 w8:=⟨Below.grown (Below.refl _ _) hC8' HP6.out.2.2.2.2.2 fun z hz=>(World.ownsRow.lt HP6.out.2.1 z hz).1,hO8⟩
  have hv8:=(hC8'.block _ (heap_lt HP6.out.1) HPN.out).trans HP6.out.1
  have hR9:Rn B w6 (w8.setCell ⟨pb,0,none⟩ (.slice (some ⟨g8,0,none⟩) (N+1) c8)):=hR8.trans ⟨(Below.refl _ _).setCell (p:=⟨pb,0,none⟩) HP.out.1 _,Only.set hv8 (by simp)⟩
  obtain ⟨⟨r0,r1⟩,_⟩:=box_2 hv8
  have hv9:(w8.setCell ⟨pb,0,none⟩ (.slice (some ⟨g8,0,none⟩) (N+1) c8)).heap[pb]?=some (.cells #[.slice (some ⟨g8,0,none⟩) (N+1) c8,.slice pR nR cR] 134 (0,0)):=by
   rw [heap_setat hv8]
   rfl
  have z0:=(box_2 hv9).1.1
  have HF:Hid (PlanO B wa (w8.setCell ⟨pb,0,none⟩ (.slice (some ⟨g8,0,none⟩) (N+1) c8)) pb (sts++[⟨op,a,b,k,D,X,par⟩]) rest∧Rn B w (w8.setCell ⟨pb,0,none⟩ (.slice (some ⟨g8,0,none⟩) (N+1) c8))):=by
   refine ⟨⟨HP.out.1,HRA.out.trans (HP6.out.2.2.2.2.1.trans hR9),_,_,_,_,_,_,_,hv9,?_,by rw [List.length_append,HP.out.2.2.2.2.2];rfl,HP6.out.2.2.1.push HU6.out,HP6.out.2.2.2.1,HQ.out.2⟩,HP6.out.2.2.2.2.1.trans hR9⟩
   rw [List.length_append,HP.out.2.2.2.2.2]
   exact owns_only (S:=[134]) h8 (Only.set hv8 (by simp)) (by decide)
  have hN1:((N+1:Nat):Int) - 1=(N:Int):=by omega
  have hN2:wrap64 (N:Int)=(N:Int):=by unfold wrap64;omega
  clear hC8 hC8' hO8 hR8 hR9 hv8 hv9 h8 hf8 e6 e7
  go_wp2
  exact bodyPost_ret (v:=.int .i64 (N:Int)) (by simp [results,Tryz.results76,go_sem,hN1,hN2]) rfl ⟨rfl,HF.out⟩
end Go.Proofs.YtiampagapgjedaaGreatDoor.Wd
