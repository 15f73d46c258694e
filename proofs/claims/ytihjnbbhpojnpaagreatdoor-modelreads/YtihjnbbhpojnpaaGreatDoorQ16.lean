/- The code's reading of texts: wordsOf, ne -/
import Derived.Test.YtihjnbbhpojnpaaGreatDoorQ03
import Derived.Test.YtihjnbbhpojnpaaGreatDoorQ15
import Derived.Lib.SmallJoins
import Derived.Lib.AppendIntMem
set_option linter.unusedVariables false
set_option linter.unusedSimpArgs false
set_option maxHeartbeats 16000000
set_option maxRecDepth 16000
namespace Go.Proofs.YtihjnbbhpojnpaaGreatDoor.Wd
open Go.RowKit
theorem wordsOf_any (s:ByteArray) (hs:s.size≤16384) (w:World):Calls Tryz.prog 16 #[.string s] w fun e w'=>∃ v,e = .returned v∧StrV w' v (wordsB s)∧Below w.heap.size w w':=by
 have hp:PredAt Tryz.prog 34 #[] encR blankR w:=fun W x hb=>by
  unfold FnGives
  refine (isBlank_any (x:Int) W).mono ?_
  rintro e w1 ⟨rfl,rfl⟩
  refine ⟨?_,0,rfl⟩
  have k:∀ j:Nat,((x:Int)==(j:Int))=(x==j):=fun j=>by
   by_cases h:x=j
   ·subst h;simp
   ·rw [beq_false_of_ne h,beq_false_of_ne fun e=>h (by omega)]
  have k0:=k 32
  have k1:=k 9
  have k2:=k 10
  show Ending.returned (Value.bool ((x:Int)==32 || (x:Int)==9 || (x:Int)==10)) = .returned (.bool (x==32 || x==9 || x==10))
  rw [← k0,← k1,← k2]
  rfl
 have cF:=Tryz.strings_FieldsFunc 34 #[] (by intro args W;kernel_rfl) blankR s w (by omega) hp
 rw [words_same] at cF
 clear hp
 obtain ⟨ws,ew⟩:∃ ws,wordsB s=ws:=⟨_,rfl⟩
 rw [ew] at cF ⊢
 clear ew
 go_enter Tryz.func16,Tryz.ntmps16
 go_wp2_with fail
 refine cF.mono ?_
 rintro e w1 ⟨A,rfl,hA,ho,hB⟩
 have HO:Hid (StrV w1 (.slice (some ⟨A,0,none⟩) ws.length ws.length) ws∧Below w.heap.size w w1):=by
  refine ⟨⟨_,_,rfl,Nat.le_refl _,fun i hi=>⟨A,0,rfl,?_⟩⟩,hB⟩
  have:=World.ownsRow.cells ho rfl i (.string (wdA ws i)) (by
   rw [List.getElem?_map,List.getElem?_eq_getElem hi]
   unfold wdA
   rw [List.getD_eq_getElem?_getD,List.getElem?_eq_getElem hi]
   rfl)
  rw [addr_plus] at this
  exact this
 clear cF ho hB hA
 go_wp2
 go_ret
 exact ⟨_,rfl,HO.out⟩
def lyC (l:Ly):List Value:=[.string l.1,.int .i64 l.2.1,.int .i64 l.2.2]
theorem lyC_at (ls:List Ly) (i k:Nat) (hi:i < ls.length) (hk:k < 3):(ls.flatMap lyC)[i*3+k]?=(lyC (lyA ls i))[k]?:=by
 induction ls generalizing i with
 | nil=>simp at hi
 | cons l ls ih=>
  rw [List.flatMap_cons]
  cases i with
  | zero=>
   rw [Nat.zero_mul,Nat.zero_add,List.getElem?_append_left (by show k < 3;exact hk)]
   rfl
  | succ i=>
   rw [List.getElem?_append_right (by show 3≤_;omega),show (i+1)*3+k - (lyC l).length=i*3+k by show (i+1)*3+k - 3=_;omega,ih i (by simpa using hi)]
   rfl
/-- A slice of layers of the call's own. -/
def LyO (W:World) (B:Nat) (v:Value) (ls:List Ly):Prop:=W.ownsRow B 65 3 v ls.length (ls.flatMap lyC)
theorem LyO.rd {W:World} {B:Nat} {v:Value} {ls:List Ly} (h:LyO W B v ls):∃ p c,v = .slice p ls.length c∧LyR 0 W p ls.length ls:=by
 have h':=h
 rcases h.2 with ⟨rfl,h0⟩|⟨g,cap,cur,rfl,hB,h5,h6⟩
 ·exact ⟨none,0,by rw [h0],rfl,fun i hi=>by omega⟩
 ·refine ⟨_,cap,rfl,rfl,fun i hi=>?_⟩
  have hc:∀ k,k < 3→∀ v,(lyC (lyA ls i))[k]?=some v→W.cell? ⟨g,0+i*3+k,none⟩=some v:=fun k hk v hv=>by
   have:=World.ownsRow.cells h' rfl (i*3+k) v ((lyC_at ls i k hi hk).trans hv)
   rw [addr_plus,← Nat.add_assoc] at this
   exact this
  exact ⟨g,0,rfl,hc 0 (by omega) _ rfl,hc 1 (by omega) _ rfl,hc 2 (by omega) _ rfl⟩
theorem LyO.only {Q:List TypeId} {W W':World} {B:Nat} {v:Value} {ls:List Ly} (h:LyO W B v ls) (ho:Only Q W W') (h1:65∉Q):LyO W' B v ls:=owns_only h ho h1
theorem LyO.up {W W':World} {B:Nat} {v:Value} {ls:List Ly} (h:LyO W B v ls) (hB:Below W.heap.size W W'):LyO W' B v ls:=h.only (Q:=[]) (Only.of hB) (by simp)
theorem LyO.nil (W:World) (B:Nat):LyO W B (.slice none 0 0) []:=⟨rfl,.inl ⟨rfl,rfl⟩⟩
theorem layT:GT Tryz.prog 24 65 3 32:=⟨Tryz.underlying24,by kernel_rfl⟩
/-- append of one element that a literal holds, as a run. -/
theorem appGr {P:Program} {t e:TypeId} {s b:Nat} (T:GT P t e s b) (hb:b≤256) (hs0:0 < s) (ty:TypeId) (W:World) (B:Nat) (v:Value) (n:Nat) (xs:List Value) (ho:W.ownsRow B e s v n xs) (g:Nat) (u:List Value) (hg:W.heap[g]?=some (.cells u.toArray e (0,0))) (hu:u.length=s) (h1:∀ x∈u,x.oneCell'=true) (hn:n+1≤1073741825) (hB:B≤W.heap.size):
  ∃ g' cap w',(Builtin.append_ #[t,t] ty #[v,.slice (some ⟨g,0,none⟩) 1 1]).run P W = .ok (.slice (some ⟨g',0,none⟩) (n+1) cap) w'∧w'.ownsRow B e s (.slice (some ⟨g',0,none⟩) (n+1) cap) (n+1) (xs++u)∧W.grownBy w' v.ownBlock:=by
 have hi:=T.hi
 cases h:P.info? e with
 | none=>rw [h] at hi;cases hi
 | some i=>
  rw [h] at hi
  simp only [Option.map_some,Option.some.injEq,Prod.mk.injEq] at hi
  obtain ⟨hz,hs,hby⟩:=hi
  cases hz0:i.zero with
  | none=>rw [hz0] at hz;cases hz
  | some z=>
   rw [hz0] at hz
   simp only [Option.map_some,Option.some.injEq] at hz
   have hm:(n+1)*b≤1073741825*256:=Nat.mul_le_mul hn hb
   obtain ⟨g',cap,w',hr,h2,h3,_,_⟩:=run_append_lies (P:=P) W t ty B e i z s b T.ht h hz0 hs hby hz hs0 v n xs ho ⟨g,0,none⟩ 1 1 u (by omega) (fun j x hj=>by
    rw [addr_plus,Nat.zero_add]
    unfold World.cell?
    simpa [hg] using hj) h1 (by omega) (by unfold maxLen;omega) (by omega) hB _ rfl
   exact ⟨g',cap,w',hr,h2,h3⟩
/-- A row of the call's own, told as a value. -/
def OwnG (e:TypeId) (s B n:Nat) (xs:List Value) (v:Value) (W:World):Prop:=∃ g c,v = .slice (some ⟨g,0,none⟩) n c∧W.ownsRow B e s v n xs
theorem OwnG.up {e:TypeId} {s B n:Nat} {xs:List Value} {v:Value} {W W':World} (h:OwnG e s B n xs v W) (hB:Below W.heap.size W W'):OwnG e s B n xs v W':=by
 obtain ⟨g,c,e,h⟩:=h
 exact ⟨g,c,e,owns_only (S:=[]) h (Only.of hB) (by simp)⟩
theorem grown_only {e:TypeId} {s B n:Nat} {xs:List Value} {v:Value} {W W':World} (h:W.ownsRow B e s v n xs) (hg:W.grownBy W' v.ownBlock):Only [e] W W':=Only.grown hg fun k hk=>by
 rcases h.2 with ⟨rfl,_⟩|⟨g',cap,cur,rfl,_,hc,_⟩
 ·cases hk
 ·cases hk
  exact ⟨_,_,_,hc,by simp⟩
theorem box_2 {W:World} {b:Nat} {v0 v1:Value} {e:TypeId} (h:W.heap[b]?=some (.cells #[v0,v1] e (0,0))):(W.cell? ⟨b,0,none⟩=some v0∧W.frozen? ⟨b,0,none⟩=false)∧(W.cell? ⟨b,1,none⟩=some v1∧W.frozen? ⟨b,1,none⟩=false):=by
 simp [World.cell?,World.frozen?,h]
theorem box_4 {W:World} {b:Nat} {v0 v1 v2 v3:Value} {e:TypeId} (h:W.heap[b]?=some (.cells #[v0,v1,v2,v3] e (0,0))):W.cell? ⟨b,0,none⟩=some v0∧W.cell? ⟨b,1,none⟩=some v1∧W.cell? ⟨b,2,none⟩=some v2∧W.cell? ⟨b,3,none⟩=some v3:=by
 simp [World.cell?,h]
theorem two_set {W U:World} {b:Nat} {t:TypeId} {a0 a1 x0 x1:Value} (h:W.heap[b]?=some (.cells #[a0,a1] t (0,0))) (e:(W.setCell ⟨b,0,none⟩ x0).setCell ⟨b,1,none⟩ x1=U):
  U.cell? ⟨b,0,none⟩=some x0∧U.cell? ⟨b,1,none⟩=some x1∧(∀ w B,B≤b→Below B w W→Below B w U)∧Only [t] W U:=by
 have h4:U.heap[b]?=some (.cells #[x0,x1] t (0,0)):=by
  rw [← e,heap_setat (heap_setat h)]
  rfl
 refine ⟨by simp [World.cell?,h4],by simp [World.cell?,h4],fun w B hb hB=>?_,?_⟩
 ·rw [← e]
  exact (hB.setCell (p:=⟨b,0,none⟩) hb _).setCell (p:=⟨b,1,none⟩) hb _
 ·rw [← e]
  exact (Only.set h (by simp)).trans (Only.set (heap_setat h) (by simp))
theorem parL_succ (f:Nat) (u:ByteArray) (us:List ByteArray):parL (f+1) (u :: us)=if kindI u=5∨(numsA us (kCnt (kindI u))).1.length≠kCnt (kindI u) then none else (parL f (numsA us (kCnt (kindI u))).2).map fun ls=>(u,(numsA us (kCnt (kindI u))).1.getD 0 0,(numsA us (kCnt (kindI u))).1.getD 1 0) :: ls:=rfl
theorem parW_cons (u:ByteArray) (us:List ByteArray):parW (u :: us)=if u=kIn∧(numsA us 2).1≠[] then (parL (numsA us 2).2.length (numsA us 2).2).map fun ls=>((numsA us 2).1,ls) else none:=rfl
theorem parL_map {f:Nat} {u:ByteArray} {us:List ByteArray} {l:List Int×List ByteArray} (hf:us.length+1≤f) (h:kindI u < 5) (hl:numsA us (kCnt (kindI u))=l) (hc:l.1.length=kCnt (kindI u)):parL f (u :: us)=(parL l.2.length l.2).map fun ls=>(u,l.1.getD 0 0,l.1.getD 1 0) :: ls:=by
 obtain ⟨f,rfl⟩:∃ g,f=g+1:=⟨f - 1,by omega⟩
 rw [parL_succ,hl,if_neg fun h'=>h'.elim (fun e=>by omega) (fun e=>e hc)]
 have:=(numsA_len us (kCnt (kindI u))).2
 rw [hl] at this
 rw [parL_fuel f l.2.length l.2 (by omega) (Nat.le_refl _)]
theorem parL_bad {f:Nat} {u:ByteArray} {us:List ByteArray} (hf:us.length+1≤f) (h:kindI u=5∨(numsA us (kCnt (kindI u))).1.length≠kCnt (kindI u)):parL f (u :: us)=none:=by
 obtain ⟨f,rfl⟩:∃ g,f=g+1:=⟨f - 1,by omega⟩
 rw [parL_succ,if_pos h]
/-- What netOf hands back. -/
def NetO (x:Option (List Int×List Ly)) (B:Nat) (v:Value) (W:World):Prop:=match x with
 | none=>v = .tuple #[.agg #[.slice none 0 0,.slice none 0 0],.bool false]
 | some y=>∃ p n c p2 n2 c2,v = .tuple #[.agg #[.slice p n c,.slice p2 n2 c2],.bool true]∧OwnK .i64 3 W B (.slice p n c) y.1∧LyO W B (.slice p2 n2 c2) y.2
/-- What numbersAhead hands back. -/
def NumP (W0:World) (B:Nat) (X:List Int×List ByteArray) (v:Value) (W:World):Prop:=∃ v1 v2,v = .tuple #[v1,v2]∧OwnK .i64 3 W B v1 X.1∧StrV W0 v2 X.2
theorem NumP.up {W0:World} {B:Nat} {X:List Int×List ByteArray} {v:Value} {W W':World} (h:NumP W0 B X v W) (hB:Below W.heap.size W W'):NumP W0 B X v W':=by
 obtain ⟨v1,v2,e,h1,h2⟩:=h
 exact ⟨v1,v2,e,h1.up hB,h2⟩
def StrP (W0:World) (ws:List ByteArray) (v:Value) (W:World):Prop:=StrV W0 v ws
theorem in_ne {x:ByteArray} (h:x≠kIn):(x.toList == [105,110])=false:=by
 have e:kIn.toList = [105,110]:=by first|decide +kernel|simp [kIn]
 rw [← e]
 exact str_ne h
theorem in_eq:(kIn.toList == [105,110])=true:=by
 have e:kIn.toList = [105,110]:=by first|decide +kernel|simp [kIn]
 rw [e]
 rfl
theorem netOf_any (v:Value) (ws:List ByteArray) (hbig:ws.length≤1073741823) (w:World) (hK:Hid (Kz w)) (hv:StrV w v ws):
  Calls Tryz.prog 15 #[v] w fun e w'=>∃ v',e = .returned v'∧NetO (parW ws) w.heap.size v' w'∧Below w.heap.size w w':=by
 haveI:Nonempty World:=⟨w⟩
 obtain ⟨p0,n0,c0,rfl,hn0⟩:=hv.form
 have HV:Hid (StrV w (.slice p0 n0 c0) ws):=hv
 obtain ⟨R,eR⟩:∃ R,parW ws=R:=⟨_,rfl⟩
 rw [eR]
 clear hv
 go_enter Tryz.func15,Tryz.ntmps15
 cases ws with
 | nil=>
  obtain rfl:n0=0:=by simpa using hn0.symm
  have eR':R=none:=by rw [← eR];rfl
  subst eR'
  clear eR
  go_wp2
  exact bodyPost_ret (v:=.tuple #[.agg #[.slice none 0 0,.slice none 0 0],.bool false]) (by simp [results,Tryz.results15,go_sem]) rfl ⟨_,rfl,rfl,by go_grown⟩
 | cons u us=>
  obtain rfl:n0=us.length+1:=by simpa using hn0.symm
  have hn1:(((us.length+1:Nat):Int)==0)=false:=by simpa using (show ((us.length+1:Nat):Int)≠0 by omega)
  obtain ⟨pp,cc,e,hcc,hcell⟩:=HV.out
  cases e
  obtain ⟨q,o,rfl,h0⟩:=hcell 0 (by simp)
  rw [Nat.add_zero] at h0
  have h00:w.cell? ⟨q,o,none⟩=some (.string u):=h0
  have hz:=cell_size h00
  clear h0 hcell
  by_cases hu:u=kIn
  case neg=>
   have eR':R=none:=by rw [← eR,parW_cons,if_neg fun h=>hu h.1]
   subst eR'
   have hu':=in_ne hu
   clear eR
   go_wp2
   exact bodyPost_ret (v:=.tuple #[.agg #[.slice none 0 0,.slice none 0 0],.bool false]) (by simp [results,Tryz.results15,go_sem]) rfl ⟨_,rfl,rfl,by go_grown⟩
  subst hu
  have hu':=in_eq
  obtain ⟨p',n',c',es,hcut⟩:=cutS HV.out
  have hrun:=cutS_run (some ⟨q,o,none⟩) (us.length+1) c0 (by omega)
  rw [es] at hrun
  have HCut:Hid (StrV w (.slice p' n' c') us):=hcut
  clear hcut es
  go_wp2_with fail
  generalize hW0:World.alloc _ _=W0
  have HB0:Hid (Below w.heap.size w W0):=by rw [← hW0];exact up_alloc w _
  have HX0:Hid (W0.heap[w.heap.size]?=some (.cells #[.slice none 0 0,.slice none 0 0] 26 (0,0))):=by
   show _=_
   rw [← hW0]
   exact Array.getElem?_push_size
  clear hW0
  have cn:=numbersAhead_any _ us 2 (by omega) W0 W0 (Below.refl _ _) (HCut.out.up HB0.out)
  refine cn.mono ?_
  rintro e w1 ⟨v1,v2,rfl,ho1,hs2,hB1⟩
  obtain ⟨D,eD⟩:∃ D,(numsA us 2).1=D:=⟨_,rfl⟩
  obtain ⟨rs,ers⟩:∃ D,(numsA us 2).2=D:=⟨_,rfl⟩
  have hrl:=(numsA_len us 2).2
  have HR:Hid (R=if D≠[] then (parL rs.length rs).map fun ls=>(D,ls) else none):=by
   show _=_
   rw [← eR,parW_cons,eD,ers]
   by_cases h:D≠[]
   ·rw [if_pos ⟨rfl,h⟩,if_pos h]
   ·rw [if_neg fun h'=>h h'.2,if_neg h]
  rw [eD] at ho1
  rw [ers] at hs2 hrl
  have hrb:rs.length≤1073741823:=by simp only [List.length_cons] at hbig;omega
  obtain ⟨pa,na,ca,rfl,HCa⟩:=ho1.nums.lst
  have hna:=HCa.out.1
  obtain ⟨pr,nr,cr,rfl,hnr⟩:=hs2.form
  have HO1:Hid (OwnK .i64 3 w1 W0.heap.size (.slice pa na ca) D∧StrV W0 (.slice pr nr cr) rs∧Below W0.heap.size W0 w1):=⟨ho1,hs2,hB1⟩
  have hz2:w.heap.size < W0.heap.size:=heap_lt HX0.out
  have HX1:=(hB1.block _ hz2).trans HX0.out
  obtain ⟨⟨x0,y0⟩,⟨x1,y1⟩⟩:=box_2 HX1
  have hzw1:=cell_size x0
  clear cn ho1 hs2 hB1 eD ers HCa eR hrun h00 hu' hn1 HCut HV hrl hcc
  by_cases hD:D = []
  ·subst hD
   obtain rfl:na=0:=by simpa using hna.symm
   have eR':R=none:=by rw [HR.out];rfl
   subst eR'
   go_wp2
   generalize hU:World.setCell _ _ _=U
   obtain ⟨u0,u1,hBU,_⟩:=two_set HX1 hU
   exact bodyPost_ret (v:=.tuple #[.agg #[.slice none 0 0,.slice none 0 0],.bool false]) (by simp [results,Tryz.results15,go_sem,u0,u1]) rfl ⟨_,rfl,rfl,hBU w _ (Nat.le_refl _) (bstep HB0.out HO1.out.2.2)⟩
  rw [if_pos hD] at HR
  have hna0:((na:Int)==0)=false:=by
   have:D.length≠0:=fun h=>hD (List.eq_nil_of_length_eq_zero h)
   simpa using (show (na:Int)≠0 by omega)
  clear hD x0 x1 y0 y1
  go_wp2_with fail
  generalize hW2:World.alloc _ _=W2
  have HI2:Hid (Below W0.heap.size W0 W2∧W2.heap[w1.heap.size]?=some (.cells #[.slice pa na ca,.slice none 0 0] 26 (0,0))∧OwnK .i64 3 W2 W0.heap.size (.slice pa na ca) D):=by
   have hb:Below w1.heap.size w1 W2:=by rw [← hW2];exact up_alloc w1 _
   refine ⟨bstep HO1.out.2.2 hb,?_,HO1.out.1.up hb⟩
   rw [← hW2]
   exact Array.getElem?_push_size
  have HS0:Hid (StrV W0 (.slice pr nr cr) rs):=HO1.out.2.1
  obtain ⟨b6,e6⟩:∃ b,w1.heap.size=b:=⟨_,rfl⟩
  have HB6:Hid (W0.heap.size≤b6):=by show _≤_;rw [← e6];exact HO1.out.2.2.size
  rw [e6] at HI2 ⊢
  clear hW2 HO1 HX1 hzw1 e6 hna hna0
  go_loopg [5] nr (fun gg u wr=>∃ (us:List ByteArray) (acc:List Ly) (vL:Value),gg=us.length∧us.length+acc.length≤1073741823∧Hid (StrV W0 u us∧Below W0.heap.size W0 wr∧OwnK .i64 3 wr W0.heap.size (.slice pa na ca) D)∧Hid (wr.heap[b6]?=some (.cells #[.slice pa na ca,vL] 26 (0,0))∧LyO wr W0.heap.size vL acc)∧Hid (R=(parL us.length us).map fun ls=>(D,acc++ls)))
  case atStart=>exact ⟨rs,[],_,hnr.symm,by simpa using hrb,⟨HS0.out,HI2.out.1,HI2.out.2.2⟩,⟨HI2.out.2.1,LyO.nil _ _⟩,by show _=_;rw [HR.out];simp⟩
  case round=>
   obtain ⟨us,acc,vL,hg,hub,HI,HL,HR2⟩:=hrel
   obtain ⟨pu,nu,cu,rfl,hnu⟩:=HI.out.1.form
   obtain ⟨pL,cL,evL,_⟩:=HL.out.2.rd
   obtain ⟨nL,enL⟩:∃ n,acc.length=n:=⟨_,rfl⟩
   rw [enL] at evL
   subst evL
   have HX:=(HI.out.2.1.block _ hz2).trans HX0.out
   cases us with
   | nil=>
    obtain rfl:nu=0:=by simpa using hnu.symm
    have eR':R=some (D,acc):=by rw [HR2.out];simp [parL]
    subst eR'
    obtain ⟨⟨x0,y0⟩,⟨x1,y1⟩⟩:=box_2 HX
    obtain ⟨⟨b0,_⟩,⟨b1,_⟩⟩:=box_2 HL.out.1
    have HXX:Hid (wr.heap[w.heap.size]?=some (.cells #[.slice none 0 0,.slice none 0 0] 26 (0,0))):=HX
    clear HX HR2 HR
    go_wp2
    generalize hU:World.setCell _ _ _=U
    obtain ⟨u0,u1,hBU,hOU⟩:=two_set HXX.out hU
    have hL2:LyO U w.heap.size (.slice pL nL cL) acc:=by
     have:=(HL.out.2.only hOU (by decide))
     exact ⟨this.1,this.2.imp id fun ⟨g,cap,cur,e1,e2,e3⟩=>⟨g,cap,cur,e1,Nat.le_trans (Nat.le_of_lt hz2) e2,e3⟩⟩
    exact bodyPost_ret (v:=.tuple #[.agg #[.slice pa na ca,.slice pL nL cL],.bool true]) (by simp [results,Tryz.results15,go_sem,u0,u1]) rfl ⟨_,rfl,⟨_,_,_,_,_,_,rfl,(HI.out.2.2.only hOU (by decide)).low (Nat.le_of_lt hz2),hL2⟩,hBU w _ (Nat.le_refl _) (bstep HB0.out HI.out.2.1)⟩
   | cons u us=>
    obtain rfl:nu=us.length+1:=by simpa using hnu.symm
    have hnu0:(0:Int) < ((us.length+1:Nat):Int):=by omega
    obtain ⟨pp,cc,e,hcc,hcell⟩:=HI.out.1
    cases e
    obtain ⟨q,o,rfl,h0⟩:=hcell 0 (by simp)
    rw [Nat.add_zero] at h0
    have h00:wr.cell? ⟨q,o,none⟩=some (.string u):=still_cell HI.out.2.1 h0
    have hz:=cell_size h00
    clear h0 hcell
    obtain ⟨p',n',c',es,hcut⟩:=cutS HI.out.1
    have hrun:=cutS_run (some ⟨q,o,none⟩) (us.length+1) cu (by omega)
    rw [es] at hrun
    have HCut:Hid (StrV W0 (.slice p' n' c') us):=hcut
    clear hcut es
    have ck:=kindOf_any u wr (Hid.up_kz (Hid.up_kz hK HB0.out) HI.out.2.1)
    obtain ⟨kd,ekd⟩:∃ k,kindI u=k:=⟨_,rfl⟩
    have hk2:kCnt kd≤2:=by unfold kCnt;split <;> (try split) <;> omega
    have HKD:Hid (kindI u=kd∧kCnt kd≤2):=⟨ekd,hk2⟩
    rw [ekd] at ck
    clear hk2
    go_wp2_with fail
    refine ck.mono ?_
    rintro e w3 ⟨rfl,hB3⟩
    have hb2:Below W0.heap.size W0 w3:=bstep HI.out.2.1 hB3
    have HX3:Hid (w3.heap[w.heap.size]?=some (.cells #[.slice none 0 0,.slice none 0 0] 26 (0,0))):=(hb2.block _ hz2).trans HX0.out
    have HW3:Hid (Below W0.heap.size W0 w3∧Below wr.heap.size wr w3):=⟨hb2,hB3⟩
    clear hb2 hB3 ck h00
    by_cases h5:kd < 5
    case neg=>
     rw [decide_eq_false h5]
     have eR':R=none:=by
      rw [HR2.out,parL_bad (f:=(u :: us).length) (by simp) (.inl (by rw [ekd];have:=kind_le u;omega))]
      rfl
     subst eR'
     obtain ⟨⟨x0,y0⟩,⟨x1,y1⟩⟩:=box_2 HX3.out
     have hzw3:=cell_size x0
     clear HR2 HR ekd
     go_wp2
     generalize hU:World.setCell _ _ _=U
     obtain ⟨u0,u1,hBU,_⟩:=two_set HX3.out hU
     have hzU:=cell_size u0
     exact bodyPost_ret (v:=.tuple #[.agg #[.slice none 0 0,.slice none 0 0],.bool false]) (by simp [results,Tryz.results15,go_sem,u0,u1,hzU]) rfl ⟨_,rfl,rfl,(hBU w _ (Nat.le_refl _) (bstep HB0.out HW3.out.1)).alloc (Nat.le_of_lt hzU) _⟩
    rw [decide_eq_true h5]
    obtain ⟨X,eX⟩:∃ X,numsA us (kCnt kd)=X:=⟨_,rfl⟩
    obtain ⟨cn,ecn⟩:∃ c,kCnt kd=c:=⟨_,rfl⟩
    have HKN:Hid (kName kd=u):=by show _=_;rw [← ekd];exact kind_name u (by omega)
    have HXX:Hid (numsA us (kCnt (kindI u))=X∧kCnt (kindI u)=cn∧X.1.length≤2∧X.2.length+X.1.length=us.length∧kindI u < 5):=by
     have h1:=numsA_len us (kCnt kd)
     rw [eX] at h1
     exact ⟨by rw [ekd];exact eX,by rw [ekd];exact ecn,by have:=HKD.out.2;omega,h1.2,by omega⟩
    rw [ecn]
    generalize kTopA kd=tA
    generalize kTopB kd=tB
    generalize kName kd=nm at HKN ⊢
    have cN:Hid (∀ W,Below W0.heap.size W0 W→Calls Tryz.prog 30 #[.slice p' n' c',.int .i64 (cn:Int)] W fun e w'=>∃ v1 v2,e = .returned (.tuple #[v1,v2])∧OwnK .i64 3 w' W.heap.size v1 X.1∧StrV W0 v2 X.2∧Below W.heap.size W w'):=fun W hW=>by
     have:=numbersAhead_any (.slice p' n' c') us (kCnt kd) HKD.out.2 W0 W hW HCut.out
     rw [eX,ecn] at this
     exact this
    clear eX ecn HKD h5 ekd HR
    go_wp2
    generalize hW4:World.alloc _ _=W4
    have HB4:Hid (Below w3.heap.size w3 W4∧Below W0.heap.size W0 W4):=by
     have hb:Below w3.heap.size w3 W4:=by rw [← hW4];exact up_alloc w3 _
     exact ⟨hb,bstep HW3.out.1 hb⟩
    have HK4:Hid (W4.heap[w3.heap.size]?=some (.cells #[.string nm,.int .i64 (cn:Int),.int .i64 tA,.int .i64 tB] 84 (0,0))):=by
     show _=_
     rw [← hW4]
     exact Array.getElem?_push_size
    obtain ⟨_,k1,_,_⟩:=box_4 HK4.out
    have hz4:=cell_size k1
    clear hW4
    refine relM [⟨4,50,NumP W0 W4.heap.size X⟩,⟨5,45,NumP W0 W4.heap.size X⟩,⟨6,51,OutV (some X.1) W4.heap.size⟩,⟨7,52,StrP W0 X.2⟩] 8 68 (by kernel_rfl) rfl rfl [7] (by kernel_rfl) (by kernel_rfl) (fun i0 hi o0 ho c a w v h=>?_) (by rfl) ?_ ?_
    ·simp only [List.mem_cons,List.not_mem_nil,or_false] at hi
     subst hi
     cases ho
     exact h
    ·intro e he v W W' h hb
     simp only [List.mem_cons,List.not_mem_nil,or_false] at he
     rcases he with rfl|rfl|rfl|rfl
     ·exact NumP.up h hb
     ·exact NumP.up h hb
     ·exact OutV.up (x:=some X.1) h hb
     ·exact h
    apply Exists.intro
    refine ⟨?yt1,?yl1,?wk1,?pk1,?rest1⟩
    case wk1=>
     intro x
     simp only [List.take_succ_cons,List.take_zero]
     iterate 4
      refine relQuiet rfl rfl ?_
      apply Exists.intro
      refine ⟨fun F hF hf K hK=>?_,?_⟩
      ·have hFc:=hF.cell
       have hFf:=hF.frozen
       go_big_quiet_op
       first|exact hK|(apply Exists.intro;refine ⟨fun _=>?_,?_⟩;(· fail);exact hK)
      (try simp only [Act.put,List.setIfInBounds_toArray,List.set_cons_zero,List.set_cons_succ])
     refine relTold rfl rfl ?_ ?_
     ·intro F hF hf d
      have hFc:=hF.cell
      have hFf:=hF.frozen
      simp [yieldsR,yieldsUpon,go_sem]
      have hb9:=hF.below d
      refine (cN.out (F d) (bstep HB4.out.2 hb9)).mono ?_
      rintro e' w8 ⟨v8,u8,rfl,h8,h8',hB8⟩
      exact ⟨_,rfl,⟨v8,u8,rfl,h8.low hb9.size,h8'⟩,hB8⟩
     (try simp only [Act.put,List.setIfInBounds_toArray,List.set_cons_zero,List.set_cons_succ])
     refine relTold rfl rfl ?_ ?_
     ·intro F hF hf d
      have hFc:=hF.cell
      have hFf:=hF.frozen
      simp [yieldsR,yieldsUpon,go_sem]
      exact ⟨hf _ List.mem_cons_self (by rfl) d,Below.refl _ _⟩
     (try simp only [Act.put,List.setIfInBounds_toArray,List.set_cons_zero,List.set_cons_succ])
     refine relTold rfl rfl ?_ ?_
     ·intro F hF hf d
      have hFc:=hF.cell
      have hFf:=hF.frozen
      obtain ⟨v9,u9,e9,h9,-⟩:=hf _ (List.mem_cons_of_mem _ List.mem_cons_self) (by rfl) d
      simp only [] at e9
      simp [yieldsR,yieldsUpon,go_sem,e9]
      obtain ⟨pp9,nn9,cc9,ee9,_⟩:=h9.nums.lst
      subst ee9
      exact ⟨⟨_,_,_,rfl,h9⟩,Below.refl _ _⟩
     (try simp only [Act.put,List.setIfInBounds_toArray,List.set_cons_zero,List.set_cons_succ])
     refine relTold rfl rfl ?_ ?_
     ·intro F hF hf d
      have hFc:=hF.cell
      have hFf:=hF.frozen
      obtain ⟨v9,u9,e9,-,h9⟩:=hf _ (List.mem_cons_of_mem _ List.mem_cons_self) (by rfl) d
      simp only [] at e9
      simp [yieldsR,yieldsUpon,go_sem,e9]
      exact ⟨h9,Below.refl _ _⟩
     (try simp only [Act.put,List.setIfInBounds_toArray,List.set_cons_zero,List.set_cons_succ])
     refine relEnd ?_
     exact rfl
    case pk1=>
     intro x
     simp only [putsK,List.foldl_cons,List.foldl_nil,Act.put,List.setIfInBounds_toArray,List.set_cons_zero,List.set_cons_succ]
    case yt1=>
     intro i0 hi o0 ho e he W x hx
     simp only [List.mem_cons,List.not_mem_nil,or_false] at hi
     subst hi
     cases ho
     have he':(⟨7,52,StrP W0 X.2⟩:Told)=e:=Option.some.inj he
     subst he'
     obtain ⟨v9,u9,e9,-,o9⟩:=hx _ (List.mem_cons_of_mem _ List.mem_cons_self) (by rfl)
     simp only [] at e9
     refine ⟨u9,o9,.inl ⟨by rfl,fun w=>?_⟩⟩
     simp [execOp,Act.eval,e9,go_sem]
    case yl1=>
     intro i0 hi o0 ho hn x hx
     simp only [List.mem_cons,List.not_mem_nil,or_false] at hi
     subst hi
     cases hn
    intro w9 xs hB9 hf
    simp only [List.drop_succ_cons,List.drop_zero]
    obtain ⟨p9,n9,c9,e9,hn9⟩:=hf _ (List.mem_cons_of_mem _ (List.mem_cons_of_mem _ List.mem_cons_self))
    have hs8:=hf _ (List.mem_cons_of_mem _ (List.mem_cons_of_mem _ (List.mem_cons_of_mem _ List.mem_cons_self)))
    simp only [] at e9 hn9 hs8
    unfold StrP at hs8
    obtain ⟨x4,e4⟩:∃ q,xs 4=q:=⟨_,rfl⟩
    obtain ⟨x5,e5⟩:∃ q,xs 5=q:=⟨_,rfl⟩
    obtain ⟨u8,e8⟩:∃ q,xs 7=q:=⟨_,rfl⟩
    rw [e8] at hs8
    obtain ⟨p8,n8,c8,eu8,hl8⟩:=hs8.form
    subst eu8
    simp only [e9,e8,e4,e5]
    have hB9w:Below wr.heap.size wr w9:=bstep HW3.out.2 (bstep HB4.out.1 hB9)
    have HN9:Hid (OwnK .i64 3 w9 W4.heap.size (.slice p9 n9 c9) X.1∧StrV W0 (.slice p8 n8 c8) X.2):=⟨hn9,hs8⟩
    have HI9:Hid (Below W0.heap.size W0 w9∧OwnK .i64 3 w9 W0.heap.size (.slice pa na ca) D):=⟨bstep HB4.out.2 hB9,HI.out.2.2.up hB9w⟩
    have HL9:Hid (w9.heap[b6]?=some (.cells #[.slice pa na ca,.slice pL nL cL] 26 (0,0))∧w9.ownsRow W0.heap.size 65 3 (.slice pL nL cL) nL (acc.flatMap lyC)):=⟨(hB9w.block _ (heap_lt HL.out.1)).trans HL.out.1,by have:=HL.out.2.up hB9w;unfold LyO at this;rw [enL] at this;exact this⟩
    have HK9:Hid (w9.heap[w3.heap.size]?=some (.cells #[.string nm,.int .i64 (cn:Int),.int .i64 tA,.int .i64 tB] 84 (0,0))):=(hB9.block _ hz4).trans HK4.out
    have HX9:Hid (w9.heap[w.heap.size]?=some (.cells #[.slice none 0 0,.slice none 0 0] 26 (0,0))):=(HI9.out.1.block _ hz2).trans HX0.out
    obtain ⟨_,k1,_,_⟩:=box_4 HK9.out
    have hn9l:Hid (X.1.length=n9):=by
     show _=_
     obtain ⟨_,_,_,e,h⟩:=hn9.nums.lst
     cases e
     exact h.out.1
    clear hf hB9 hB9w hn9 hs8 e9 e8 e4 e5 cN hrun HB4 HK4 HX3 HI HL HW3
    by_cases hnc:n9=cn
    case neg=>
     have hnc':((n9:Int) != (cn:Int))=true:=by simpa using (show (n9:Int)≠(cn:Int) by omega)
     have hnc2:¬ ((n9:Int)=(cn:Int)):=by omega
     have eR':R=none:=by
      rw [HR2.out,parL_bad (f:=(u :: us).length) (by simp) (.inr (by rw [HXX.out.1,HXX.out.2.1,hn9l.out];exact hnc))]
      rfl
     subst eR'
     obtain ⟨⟨x0,y0⟩,⟨x1,y1⟩⟩:=box_2 HX9.out
     clear HR2
     go_wp2
     generalize hU:World.setCell _ _ _=U
     obtain ⟨u0,u1,hBU,_⟩:=two_set HX9.out hU
     exact bodyPost_ret (v:=.tuple #[.agg #[.slice none 0 0,.slice none 0 0],.bool false]) (by simp [results,Tryz.results15,go_sem,u0,u1]) rfl ⟨_,rfl,rfl,hBU w _ (Nat.le_refl _) (bstep HB0.out HI9.out.1)⟩
    subst hnc
    obtain ⟨a,ea⟩:∃ a,X.1.getD 0 0=a:=⟨_,rfl⟩
    obtain ⟨b,eb⟩:∃ a,X.1.getD 1 0=a:=⟨_,rfl⟩
    have HR3:Hid (R=(parL X.2.length X.2).map fun ls=>(D,(acc++[(u,a,b)])++ls)):=by
     show _=_
     rw [HR2.out,parL_map (f:=(u :: us).length) (by simp) HXX.out.2.2.2.2 HXX.out.1 (by rw [HXX.out.2.1];exact hn9l.out),ea,eb,Option.map_map]
     simp [Function.comp_def]
    have cLy:Hid (∀ W,Only [65] w9 W→Calls Tryz.prog 32 #[.agg #[.string nm,.int .i64 (n9:Int),.int .i64 tA,.int .i64 tB],.slice p9 n9 c9] W fun e w'=>e = .returned (.agg #[.string u,.int .i64 a,.int .i64 b])∧Below W.heap.size W w'):=fun W hW=>by
     have:=layerOf_any nm n9 tA tB X.1 HXX.out.2.2.1 p9 n9 c9 W (HN9.out.1.only hW (by decide)).nums
     rw [ea,eb] at this
     rw [← HKN.out]
     exact this
    have hxl:Hid (X.2.length+X.1.length=us.length):=HXX.out.2.2.2.1
    simp only [List.length_cons] at hub hg
    have HGO:Hid (∀ W,w9.grownBy W (Value.ownBlock (.slice pL nL cL))→Only [65] w9 W):=fun W hW=>grown_only HL9.out.2 hW
    have HRW:Hid (∀ z,Value.ownBlock (.slice pL nL cL)=some z→z < w9.heap.size):=fun z hz'=>(World.ownsRow.lt HL9.out.2 z hz').2
    have hB0w9:=HI9.out.1.size
    clear ea eb HR2 HKN
    go_wp2
    refine from_region (by kernel_rfl) ?_
    refine seg (fun q W=>match q with|false=>Below w9.heap.size w9 W|true=>w9.grownBy W (Value.ownBlock (.slice pL nL cL))) (fun W W'=>W.grownBy W' (Value.ownBlock (.slice pL nL cL))) 6 [⟨5,64,LitS 65 w9.heap.size [.string u,.int .i64 a,.int .i64 b]⟩,⟨6,65,OwnG 65 3 W0.heap.size (nL+1) (acc.flatMap lyC++[.string u,.int .i64 a,.int .i64 b])⟩] 0 8 68 rfl rfl (by kernel_rfl) (by rfl) ?_ ?_ ?_ ?_ ?_ ?_
    ·intro q W W' h hb
     cases q
     ·exact bstep h hb
     ·exact grown_up h hb
    ·exact ⟨rfl,rfl,rfl,Nat.le_refl _,fun _ _=>rfl⟩
    ·exact .inl ⟨_,List.mem_cons_of_mem _ List.mem_cons_self,rfl⟩
    ·intro e he v W W' h hb
     simp only [List.mem_cons,List.not_mem_nil,or_false] at he
     rcases he with rfl|rfl
     ·exact LitS.up h hb
     ·exact OwnG.up h hb
    ·intro e he hne v W W' h hc ht
     simp only [List.mem_cons,List.not_mem_nil,or_false] at he
     rcases he with rfl|rfl
     ·exact LitS.grown h ht HRW.out
     ·exact absurd rfl hne
    apply Exists.intro
    refine ⟨fun x=>?_,?_,?_⟩
    ·simp only [List.drop_succ_cons,List.drop_zero,List.take_succ_cons,List.take_zero]
     refine segQuiet rfl rfl ?_
     apply Exists.intro
     refine ⟨fun b' F hF hf K hK=>?_,?_⟩
     ·have hFc:=hF.cls
      go_big_quiet_op
      first|exact hK|(apply Exists.intro;refine ⟨fun _=>?_,?_⟩;(· fail);exact hK)
     (try simp only [Act.put,List.setIfInBounds_toArray,List.set_cons_zero,List.set_cons_succ])
     refine segQuiet rfl rfl ?_
     apply Exists.intro
     refine ⟨fun b' F hF hf K hK=>?_,?_⟩
     ·have hFc:=hF.cls
      have q0:∀ d,Only [65] w9 (F d):=fun d=>HGO.out _ (by
       cases b'
       ·exact below_grown _ (hFc d)
       ·exact hFc d)
      have q1:=fun d=>(box_2 ((q0 d).keep HL9.out.1 (by decide))).2.1
      clear hFc q0
      go_big_quiet_op
      first|exact hK|(apply Exists.intro;refine ⟨fun _=>?_,?_⟩;(· fail);exact hK)
     (try simp only [Act.put,List.setIfInBounds_toArray,List.set_cons_zero,List.set_cons_succ])
     refine segQuiet rfl rfl ?_
     apply Exists.intro
     refine ⟨fun b' F hF hf K hK=>?_,?_⟩
     ·have hFc:=hF.cls
      have q0:∀ d,Only [65] w9 (F d):=fun d=>HGO.out _ (by
       cases b'
       ·exact below_grown _ (hFc d)
       ·exact hFc d)
      have q1:=fun d=>(box_4 ((q0 d).keep HK9.out (by decide))).1
      have q2:=fun d=>(box_4 ((q0 d).keep HK9.out (by decide))).2.1
      have q3:=fun d=>(box_4 ((q0 d).keep HK9.out (by decide))).2.2.1
      have q4:=fun d=>(box_4 ((q0 d).keep HK9.out (by decide))).2.2.2
      clear hFc q0
      go_big_quiet_op
      first|exact hK|(apply Exists.intro;refine ⟨fun _=>?_,?_⟩;(· fail);exact hK)
     (try simp only [Act.put,List.setIfInBounds_toArray,List.set_cons_zero,List.set_cons_succ])
     refine segQuiet rfl rfl ?_
     apply Exists.intro
     refine ⟨fun b' F hF hf K hK=>?_,?_⟩
     ·have hFc:=hF.cls
      go_big_quiet_op
      first|exact hK|(apply Exists.intro;refine ⟨fun _=>?_,?_⟩;(· fail);exact hK)
     (try simp only [Act.put,List.setIfInBounds_toArray,List.set_cons_zero,List.set_cons_succ])
     refine segQuiet rfl rfl ?_
     apply Exists.intro
     refine ⟨fun b' F hF hf K hK=>?_,?_⟩
     ·have hFc:=hF.cls
      have q0:∀ d,Only [65] w9 (F d):=fun d=>HGO.out _ (by
       cases b'
       ·exact below_grown _ (hFc d)
       ·exact hFc d)
      go_big_quiet_op
      first|exact hK|(apply Exists.intro;refine ⟨fun _=>?_,?_⟩;(· exact hF.call (cLy.out _ (q0 _)));exact hK)
     (try simp only [Act.put,List.setIfInBounds_toArray,List.set_cons_zero,List.set_cons_succ])
     refine segTold rfl (by decide) rfl ?_ ?_
     ·intro b' F hF hf d
      have hFc:=hF.cls
      have hcls:w9.heap.size≤(F d).heap.size:=by
       cases b'
       ·exact (hFc d).size
       ·exact (hFc d).size
      simp [yieldsR,yieldsUpon,go_sem]
      exact ⟨⟨(F d).heap.size,rfl,heap_alloc_new (F d) _,hcls⟩,up_alloc _ _⟩
     (try simp only [Act.put,List.setIfInBounds_toArray,List.set_cons_zero,List.set_cons_succ])
     refine segBusy rfl rfl rfl ?_ ?_
     ·intro W hW hf
      have h7:=hf _ List.mem_cons_self (by rfl) W
      obtain ⟨g7,e7,hg7,_⟩:=h7
      simp only [] at e7
      obtain ⟨g8,c8,w8,hr8,ho8,hgr8⟩:=appGr layT (by decide) (by decide) 24 W W0.heap.size (.slice pL nL cL) nL (acc.flatMap lyC) (owns_only (S:=[]) HL9.out.2 (Only.of hW) (by simp)) g7 [.string u,.int .i64 a,.int .i64 b] hg7 rfl (fun x hx=>by simp at hx;rcases hx with rfl|rfl|rfl <;> rfl) (by omega) (Nat.le_trans hB0w9 (Below.size hW))
      simp [leavesR,leavesUpon,execOp,resolve,invoke,builtin,Act.eval,e7,hr8,Result.andThen]
      exact ⟨⟨g8,c8,rfl,ho8⟩,grown_trans (below_grown _ hW) hgr8,hgr8⟩
     (try simp only [Act.put,List.setIfInBounds_toArray,List.set_cons_zero,List.set_cons_succ])
     refine segQuiet rfl rfl ?_
     apply Exists.intro
     refine ⟨fun b' F hF hf K hK=>?_,?_⟩
     ·have hFc:=hF.cls
      go_big_quiet_op
      first|exact hK|(apply Exists.intro;refine ⟨fun _=>?_,?_⟩;(· fail);exact hK)
     (try simp only [Act.put,List.setIfInBounds_toArray,List.set_cons_zero,List.set_cons_succ])
     refine segEnd ?_
     exact rfl
    ·exact fun x=>rfl
    ·intro w8 xs8 hC8 hf8
     refine from_list 8 (by kernel_rfl) ?_
     simp only [List.drop_succ_cons,List.drop_zero]
     have h8:=hf8 _ (List.mem_cons_of_mem _ List.mem_cons_self)
     obtain ⟨x5,e5⟩:∃ z,xs8 5=z:=⟨_,rfl⟩
     obtain ⟨x6,e6⟩:∃ z,xs8 6=z:=⟨_,rfl⟩
     simp only [e6] at h8
     simp only [e5,e6]
     obtain ⟨g8,c88,rfl,h8⟩:=h8
     have hO8:=HGO.out w8 hC8
     have hv8:=hO8.keep HL9.out.1 (by decide)
     obtain ⟨_,⟨r0,r1⟩⟩:=box_2 hv8
     have HF:Hid (StrV W0 (.slice p8 n8 c8) X.2∧Below W0.heap.size W0 (w8.setCell ⟨b6,1,none⟩ (.slice (some ⟨g8,0,none⟩) (nL+1) c88))∧OwnK .i64 3 (w8.setCell ⟨b6,1,none⟩ (.slice (some ⟨g8,0,none⟩) (nL+1) c88)) W0.heap.size (.slice pa na ca) D):=by
      refine ⟨HN9.out.2,(Below.grown HI9.out.1 hC8 hB0w9 fun k hk=>(World.ownsRow.lt HL9.out.2 k hk).1).setCell (p:=⟨b6,1,none⟩) HB6.out _,(HI9.out.2.only hO8 (by decide)).only (Only.set (S:=[26]) hv8 (by simp)) (by decide)⟩
     have HF2:Hid ((w8.setCell ⟨b6,1,none⟩ (.slice (some ⟨g8,0,none⟩) (nL+1) c88)).heap[b6]?=some (.cells #[.slice pa na ca,.slice (some ⟨g8,0,none⟩) (nL+1) c88] 26 (0,0))∧LyO (w8.setCell ⟨b6,1,none⟩ (.slice (some ⟨g8,0,none⟩) (nL+1) c88)) W0.heap.size (.slice (some ⟨g8,0,none⟩) (nL+1) c88) (acc++[(u,a,b)])):=by
      refine ⟨by rw [heap_setat hv8];rfl,?_⟩
      unfold LyO
      rw [List.length_append,enL,List.flatMap_append]
      exact owns_only (S:=[26]) h8 (Only.set hv8 (by simp)) (by decide)
     have hxl':=hxl.out
     have hub2:X.2.length+(acc++[(u,a,b)]).length≤1073741823:=by simp;omega
     have HUB2:Hid (X.2.length+(acc++[(u,a,b)]).length≤1073741823∧X.2.length < us.length+1):=⟨hub2,by omega⟩
     clear hxl' hO8 hv8 h8 hf8 hC8 hub2 e5 e6
     go_wp2
     go_roundg X.2.length
     case measure=>have:=HUB2.out.2;omega
     case rel=>exact ⟨X.2,acc++[(u,a,b)],_,rfl,HUB2.out.1,HF,HF2,HR3⟩
theorem spans_few (s:ByteArray):∀ n,(spansN s n).1.length+(if (spansN s n).2=none then 0 else 1)≤n
 | 0=>by simp [spansN]
 | n+1=>by
  have ih:=spans_few s n
  have e:spansN s (n+1)=spanStep s n (spansN s n):=rfl
  rw [e]
  unfold spanStep
  cases hs:(spansN s n).2 with
  | none=>rw [hs] at ih;simp at ih;split <;> simp <;> omega
  | some a=>rw [hs] at ih;simp at ih;split <;> simp <;> omega
theorem words_few (s:ByteArray):(wordsB s).length≤s.size:=by
 have:=spans_few s s.size
 unfold wordsB Lib.closeSpans
 rw [List.length_map]
 cases hs:(spansN s s.size).2 with
 | none=>rw [hs] at this;simpa using this
 | some a=>rw [hs] at this;simpa using this
theorem parL_few:∀ (f:Nat) (ws:List ByteArray) (ls:List Ly),parL f ws=some ls→ls.length≤f
 | 0,_,ls,h=>by cases h;simp
 | f+1,[],ls,h=>by cases h;simp
 | f+1,u :: us,ls,h=>by
  rw [parL_succ] at h
  split at h
  ·cases h
  ·obtain ⟨l,h1,rfl⟩:=Option.map_eq_some_iff.1 h
   have:=parL_few f _ l h1
   simp only [List.length_cons]
   omega
theorem parW_few {ws:List ByteArray} {x:List Int×List Ly} (h:parW ws=some x):x.2.length≤ws.length:=by
 cases ws with
 | nil=>cases h
 | cons u us=>
  rw [parW_cons] at h
  split at h
  ·obtain ⟨l,h1,rfl⟩:=Option.map_eq_some_iff.1 h
   have h2:=parL_few _ _ l h1
   have h3:=(numsA_len us 2).2
   simp only [List.length_cons]
   omega
  ·cases h
theorem LyO.low {W:World} {B B':Nat} {v:Value} {ls:List Ly} (h:LyO W B v ls) (hB:B'≤B):LyO W B' v ls:=⟨h.1,h.2.imp id fun ⟨g,cap,cur,e1,e2,e3⟩=>⟨g,cap,cur,e1,Nat.le_trans hB e2,e3⟩⟩
theorem Parse_any (s:ByteArray) (w:World) (hK:Hid (Kz w)):
  Calls Tryz.prog 5 #[.string s] w fun e w'=>∃ p n c p2 n2 c2,e = .returned (.tuple #[.agg #[.slice p n c,.slice p2 n2 c2],.int .i64 (pE s)])∧OwnK .i64 3 w' w.heap.size (.slice p n c) (pX s).1∧LyO w' w.heap.size (.slice p2 n2 c2) (pX s).2∧Below w.heap.size w w':=by
 obtain ⟨E,eE⟩:∃ E,pE s=E:=⟨_,rfl⟩
 obtain ⟨X,eX⟩:∃ X,pX s=X:=⟨_,rfl⟩
 have HE:Hid (pE s=E∧pX s=X):=⟨eE,eX⟩
 have HX0:Hid (E≠0→X=([],[])):=fun h=>by rw [← eX];unfold pX;rw [if_neg (by rw [eE];exact h)]
 rw [eE,eX]
 clear eE eX
 go_enter Tryz.func5,Tryz.ntmps5
 by_cases hs:16384 < s.size
 ·have hs':(16384:Int) < ((s.size:Nat):Int):=by omega
  have e1:E=2:=by rw [← HE.out.1];unfold pE;rw [if_pos hs]
  have e2:X=([],[]):=HX0.out (by rw [e1];decide)
  subst e1 e2
  go_wp2
  exact bodyPost_ret (v:=.tuple #[.agg #[.slice none 0 0,.slice none 0 0],.int .i64 2]) (by simp [results,Tryz.results5,go_sem]) rfl ⟨_,_,_,_,_,_,rfl,OwnK.nil _ _ _ _,LyO.nil _ _,by go_grown⟩
 have hs':((s.size:Nat):Int)≤16384:=by omega
 have hsn:s.size≤16384:=by omega
 have HP:Hid (E=match parW (wordsB s) with|none=>7|some x=>nE x.1 x.2):=by
  show _=_
  rw [← HE.out.1]
  unfold pE
  rw [if_neg hs]
  cases parW (wordsB s) <;> rfl
 go_wp2_with fail
 generalize hW0:World.alloc _ _=W0
 have HB0:Hid (Below w.heap.size w W0):=by rw [← hW0];exact up_alloc w _
 have HR0:Hid (W0.heap[w.heap.size]?=some (.cells #[.slice none 0 0,.slice none 0 0] 26 (0,0))):=by
  show _=_
  rw [← hW0]
  exact Array.getElem?_push_size
 have hz0:=heap_lt HR0.out
 clear hW0
 refine (wordsOf_any s hsn W0).mono ?_
 rintro e w1 ⟨v1,rfl,hv1,hB1⟩
 obtain ⟨pv,nv,cv,rfl,_⟩:=hv1.form
 have HB1:Hid (Below w.heap.size w w1∧Below W0.heap.size W0 w1):=⟨bstep HB0.out hB1,hB1⟩
 have hwf:=words_few s
 obtain ⟨ws,ews⟩:∃ ws,wordsB s=ws:=⟨_,rfl⟩
 rw [ews] at hv1 HP hwf
 have cN:=netOf_any _ ws (by omega) w1 (Hid.up_kz hK HB1.out.1) hv1
 obtain ⟨R,eR⟩:∃ R,parW ws=R:=⟨_,rfl⟩
 have HRR:Hid (parW ws=R∧ws.length≤16384∧wordsB s=ws):=⟨eR,by omega,ews⟩
 rw [eR] at cN HP
 clear hv1 hB1 ews eR hwf
 go_wp2_with fail
 refine cN.mono ?_
 rintro e w2 ⟨v2,rfl,hn2,hB2⟩
 have HB2:Hid (Below w.heap.size w w2∧Below W0.heap.size W0 w2):=⟨bstep HB1.out.1 hB2,bstep HB1.out.2 hB2⟩
 clear cN
 cases R with
 | none=>
  have h2:v2 = .tuple #[.agg #[.slice none 0 0,.slice none 0 0],.bool false]:=hn2
  subst h2
  have e1:E=7:=HP.out
  have e2:X=([],[]):=HX0.out (by rw [e1];decide)
  subst e1 e2
  have hR2:=(HB2.out.2.block _ hz0).trans HR0.out
  obtain ⟨⟨x0,y0⟩,⟨x1,y1⟩⟩:=box_2 hR2
  have hzz:=cell_size x0
  clear hn2 hB2
  go_wp2
  generalize hU:World.setCell _ _ _=U
  obtain ⟨u0,u1,hBU,_⟩:=two_set hR2 hU
  have hzU:=cell_size u0
  exact bodyPost_ret (v:=.tuple #[.agg #[.slice none 0 0,.slice none 0 0],.int .i64 7]) (by simp [results,Tryz.results5,go_sem,u0,u1,hzU]) rfl ⟨_,_,_,_,_,_,rfl,OwnK.nil _ _ _ _,LyO.nil _ _,(hBU w _ (Nat.le_refl _) HB2.out.1).alloc (Nat.le_of_lt hzU) _⟩
 | some x=>
  obtain ⟨d,ls⟩:=x
  obtain ⟨p,n,c,p2,n2,c2,rfl,ho,hl⟩:=hn2
  have hls:=parW_few HRR.out.1
  obtain ⟨pl,cl,el,hlr⟩:=hl.rd
  cases el
  simp only [] at ho hl hls hlr
  have HO:Hid (OwnK .i64 3 w2 w1.heap.size (.slice p n c) d∧LyO w2 w1.heap.size (.slice p2 ls.length c2) ls):=⟨ho,hl⟩
  obtain ⟨nl,enl⟩:∃ n,ls.length=n:=⟨_,rfl⟩
  have hw:=HRR.out.2.1
  have cS:Hid (∀ W,Below w2.heap.size w2 W→Calls Tryz.prog 17 #[.agg #[.slice p n c,.slice p2 nl c2]] W fun e w'=>∃ ps sl cs,e = .returned (.tuple #[.slice ps sl cs,.int .i64 (nE d ls)])∧Below W.heap.size W w'):=fun W hW=>by
   have hlr':=hlr.up hW
   rw [enl] at hlr'
   refine (Shapes_any p p2 n c nl c2 d ls (by omega) W (Hid.up_kz (Hid.up_kz hK HB2.out.1) hW) (ho.nums.up hW) hlr').mono ?_
   rintro e w' ⟨ps,cs,rfl,_,hB⟩
   exact ⟨ps,_,cs,rfl,hB⟩
  have e1:E=nE d ls:=HP.out
  rw [← e1] at cS
  have HP2:Hid (E=0→X=(d,ls)):=fun h=>by
   rw [← HE.out.2]
   unfold pX
   rw [if_pos (by rw [HE.out.1];exact h),HRR.out.2.2,HRR.out.1]
   rfl
  rw [enl] at HO ⊢
  clear ho hl hls hlr hw hB2 HP e1 enl
  have hR2:Hid (w2.heap[w.heap.size]?=some (.cells #[.slice none 0 0,.slice none 0 0] 26 (0,0))∧w.heap.size < w2.heap.size):=⟨(HB2.out.2.block _ hz0).trans HR0.out,Nat.lt_of_lt_of_le hz0 HB2.out.2.size⟩
  go_wp2_with fail
  generalize hW3:World.alloc _ _=W3
  have hB3:Below w2.heap.size w2 W3:=by rw [← hW3];exact up_alloc w2 _
  obtain ⟨b0,b1⟩:W3.cell? ⟨w2.heap.size,0,none⟩=some (.slice p n c)∧W3.cell? ⟨w2.heap.size,1,none⟩=some (.slice p2 nl c2):=by rw [← hW3];simp [go_sem]
  refine (cS.out W3 hB3).mono ?_
  rintro e w4 ⟨ps,sl,cs,rfl,hB4⟩
  replace b0:=still_cell hB4 b0
  replace b1:=still_cell hB4 b1
  have hB24:Below w2.heap.size w2 w4:=bstep hB3 hB4
  have HB4:Hid (Below w.heap.size w w4):=bstep HB2.out.1 hB24
  have hR4:=(hB24.block _ hR2.out.2).trans hR2.out.1
  have HO4:Hid (OwnK .i64 3 w4 w.heap.size (.slice p n c) d∧LyO w4 w.heap.size (.slice p2 nl c2) ls):=⟨(HO.out.1.up hB24).low HB1.out.1.size,(HO.out.2.up hB24).low HB1.out.1.size⟩
  obtain ⟨⟨x0,y0⟩,⟨x1,y1⟩⟩:=box_2 hR4
  clear hW3 hB3 hB4 hB24 cS
  by_cases h0:E=0
  ·subst h0
   have e2:=HP2.out rfl
   subst e2
   go_wp2
   generalize hU:World.setCell _ _ _=U
   obtain ⟨u0,u1,hBU,hOU⟩:=two_set hR4 hU
   exact bodyPost_ret (v:=.tuple #[.agg #[.slice p n c,.slice p2 nl c2],.int .i64 0]) (by simp [results,Tryz.results5,go_sem,u0,u1]) rfl ⟨_,_,_,_,_,_,rfl,HO4.out.1.only hOU (by decide),HO4.out.2.only hOU (by decide),hBU w _ (Nat.le_refl _) HB4.out⟩
  ·have hE':(E != 0)=true:=by simpa using h0
   have e2:=HX0.out h0
   subst e2
   go_wp2
   generalize hU:World.setCell _ _ _=U
   obtain ⟨u0,u1,hBU,hOU⟩:=two_set hR4 hU
   exact bodyPost_ret (v:=.tuple #[.agg #[.slice none 0 0,.slice none 0 0],.int .i64 E]) (by simp [results,Tryz.results5,go_sem,u0,u1]) rfl ⟨_,_,_,_,_,_,rfl,OwnK.nil _ _ _ _,LyO.nil _ _,hBU w _ (Nat.le_refl _) HB4.out⟩
end Go.Proofs.YtihjnbbhpojnpaaGreatDoor.Wd
namespace Go.Proofs
open Go.Shelf
def Tryz.laysM171_ren:Go.Shelf.Ren:=⟨fun|171=>40|243=>58|246=>70|283=>79|284=>80|285=>81|286=>82|129=>102|317=>101|318=>103|319=>104|320=>105|337=>127|338=>128|n=>n,fun|3=>3|9=>9|2=>2|4=>4|171=>145|0=>0|53=>97|37=>124|5=>5|173=>148|212=>167|51=>168|20=>20|213=>169|46=>170|232=>220|233=>221|n=>n,fun|17=>1|18=>3|19=>4|n=>n⟩
theorem Tryz.laysM171:Go.Proofs.LaysM.n171 Tryz.prog Tryz.laysM171_ren:={
 mixed:=by kernel_rfl
 f129:=Tryz.func102.trans (congrArg some (by kernel_rfl))
 f171:=Tryz.func40.trans (congrArg some (by kernel_rfl))
 f243:=Tryz.func58.trans (congrArg some (by kernel_rfl))
 f246:=Tryz.func70.trans (congrArg some (by kernel_rfl))
 f283:=Tryz.func79.trans (congrArg some (by kernel_rfl))
 f284:=Tryz.func80.trans (congrArg some (by kernel_rfl))
 f285:=Tryz.func81.trans (congrArg some (by kernel_rfl))
 f286:=Tryz.func82.trans (congrArg some (by kernel_rfl))
 f317:=Tryz.func101.trans (congrArg some (by kernel_rfl))
 f318:=Tryz.func103.trans (congrArg some (by kernel_rfl))
 f319:=Tryz.func104.trans (congrArg some (by kernel_rfl))
 f320:=Tryz.func105.trans (congrArg some (by kernel_rfl))
 f337:=Tryz.func127.trans (congrArg some (by kernel_rfl))
 f338:=Tryz.func128.trans (congrArg some (by kernel_rfl))
 t0:=Tryz.underlying0
 a0:=Tryz.isAgg0
 z0:=Tryz.sizeOf0
 v0:=Tryz.zeroValue0
 t2:=Tryz.underlying2
 a2:=Tryz.isAgg2
 z2:=Tryz.sizeOf2
 v2:=Tryz.zeroValue2
 t3:=Tryz.underlying3
 a3:=Tryz.isAgg3
 z3:=Tryz.sizeOf3
 v3:=Tryz.zeroValue3
 t4:=Tryz.underlying4
 a4:=Tryz.isAgg4
 z4:=Tryz.sizeOf4
 v4:=Tryz.zeroValue4
 t5:=Tryz.underlying5
 a5:=Tryz.isAgg5
 z5:=Tryz.sizeOf5
 v5:=Tryz.zeroValue5
 t9:=Tryz.underlying9
 a9:=Tryz.isAgg9
 z9:=Tryz.sizeOf9
 v9:=Tryz.zeroValue9
 t20:=Tryz.underlying20
 a20:=Tryz.isAgg20
 z20:=Tryz.sizeOf20
 v20:=Tryz.zeroValue20
 t37:=Tryz.underlying124
 a37:=Tryz.isAgg124
 z37:=Tryz.sizeOf124
 v37:=Tryz.zeroValue124
 t46:=Tryz.underlying170
 a46:=Tryz.isAgg170
 z46:=Tryz.sizeOf170
 v46:=Tryz.zeroValue170
 t51:=Tryz.underlying168
 a51:=Tryz.isAgg168
 z51:=Tryz.sizeOf168
 v51:=Tryz.zeroValue168
 t53:=Tryz.underlying97
 a53:=Tryz.isAgg97
 z53:=Tryz.sizeOf97
 v53:=Tryz.zeroValue97
 t171:=Tryz.underlying145
 a171:=Tryz.isAgg145
 z171:=Tryz.sizeOf145
 v171:=Tryz.zeroValue145
 t173:=Tryz.underlying148
 a173:=Tryz.isAgg148
 z173:=Tryz.sizeOf148
 v173:=Tryz.zeroValue148
 t212:=Tryz.underlying167
 a212:=Tryz.isAgg167
 z212:=Tryz.sizeOf167
 v212:=Tryz.zeroValue167
 t213:=Tryz.underlying169
 a213:=Tryz.isAgg169
 z213:=Tryz.sizeOf169
 t232:=Tryz.underlying220
 a232:=Tryz.isAgg220
 z232:=Tryz.sizeOf220
 v232:=Tryz.zeroValue220
 t233:=Tryz.underlying221
 a233:=Tryz.isAgg221
 z233:=Tryz.sizeOf221
 v233:=Tryz.zeroValue221
 g17:=by kernel_rfl
 g18:=by kernel_rfl
 g19:=by kernel_rfl
 i0:=by kernel_rfl
 i2:=by kernel_rfl
 i3:=by kernel_rfl
 i4:=by kernel_rfl
 i5:=by kernel_rfl
 i9:=by kernel_rfl
 i20:=by kernel_rfl
 i37:=by kernel_rfl
 i46:=by kernel_rfl
 i51:=by kernel_rfl
 i53:=by kernel_rfl
 i171:=by kernel_rfl
 i173:=by kernel_rfl
 i212:=by kernel_rfl
 i232:=by kernel_rfl
 i233:=by kernel_rfl
 m17:=by kernel_rfl
 m18:=by kernel_rfl
 m19:=by kernel_rfl }
open Go.RowKit Go.Sort Go.Lib in
theorem Tryz.strconv_Itoa (n : Int) (h0 : -9223372036854775808 ≤ n) (h1 : n ≤ 9223372036854775807) (w : World) (htab : Lib.TabIs Tryz.prog w "internal/strconv.uint64pow10" .u64 Lib.pow10Tab) :
  Calls Tryz.prog 40 #[.int .i64 n] w fun e w'=>e = .returned (.string ⟨(Lib.itoa n).toArray⟩)∧∃ k os,w'=grow (w.drewN k) os:=Any.strconv_Itoa Tryz.laysM171 n h0 h1 w htab
end Go.Proofs
namespace Go.Proofs.YtihjnbbhpojnpaaGreatDoor.Wd
open Go.RowKit
/-- The table of powers, as its variable holds it. -/
def Pz (w : World) : Prop := Lib.TabIs Tryz.prog w "internal/strconv.uint64pow10" .u64 Lib.pow10Tab
theorem Hid.up_pz {w w1:World} (h:Hid (Pz w)) (hb:Below w.heap.size w w1):Hid (Pz w1):=Joins.tab_stays (g:=1) (by kernel_rfl) h.out hb (Nat.le_refl _)
theorem itoa_any (x:Int) (hx:0≤x∧x≤9999) (w:World) (hP:Hid (Pz w)):Calls Tryz.prog 40 #[.int .i64 x] w fun e w'=>e = .returned (.string (dgB x))∧Below w.heap.size w w':=by
 refine (Tryz.strconv_Itoa x (by omega) (by omega) w hP.out).mono ?_
 rintro e w' ⟨rfl,k,os,rfl⟩
 refine ⟨?_,Lib.below_grow _ _ (Nat.le_refl _) _ _⟩
 unfold dgB Lib.itoa
 rw [if_neg (by omega)]
/-- A slice of words of the call's own. -/
def StO (W:World) (B:Nat) (v:Value) (ws:List ByteArray):Prop:=W.ownsRow B 9 1 v ws.length (ws.map Value.string)
theorem strT:GT Tryz.prog 54 9 1 16:=⟨Tryz.underlying54,by kernel_rfl⟩
theorem StO.up {W W':World} {B:Nat} {v:Value} {ws:List ByteArray} (h:StO W B v ws) (hB:Below W.heap.size W W'):StO W' B v ws:=owns_only (S:=[]) h (Only.of hB) (by simp)
theorem StO.form {W:World} {B:Nat} {v:Value} {ws:List ByteArray} (h:StO W B v ws):∃ p n c,v = .slice p n c∧ws.length=n:=by
 rcases h.2 with ⟨rfl,h0⟩|⟨g,cap,cur,rfl,_⟩
 ·exact ⟨_,_,_,rfl,h0⟩
 ·exact ⟨_,_,_,rfl,rfl⟩
theorem st_app {W:World} {B:Nat} {v:Value} {ws:List ByteArray} (h:StO W B v ws) (hB:B≤W.heap.size) (x:ByteArray):Hid ((W.alloc (.cells #[.string x] 9)).ownsRow B 9 1 v ws.length (ws.map Value.string))∧Hid ((W.alloc (.cells #[.string x] 9)).heap[W.heap.size]?=some (.cells [Value.string x].toArray 9 (0,0)))∧Hid (∀ y∈[Value.string x],y.oneCell'=true)∧Hid (B≤(W.alloc (.cells #[.string x] 9)).heap.size):=
 ⟨h.up (up_alloc W _),Array.getElem?_push_size,fun y hy=>by simp at hy;subst hy;rfl,by show _≤_;simp;omega⟩
/-- What stands behind such an append, of a box beside it too. -/
theorem st_push {w W w0:World} {B b:Nat} {v0 v1 v2:Value} {ws:List ByteArray} {x:ByteArray} {t:TypeId} (ht:t≠9) (hBW:Below B w W) (hsz:B≤W.heap.size) (hb:W.heap[b]?=some (.cells #[v1,v2] t (0,0))) (h:w0.ownsRow B 9 1 v0 (ws.length+1) (ws.map Value.string++[.string x])) (ho:Only [9] (W.alloc (.cells #[.string x] 9)) w0) (hBl:∀ w',Below B w' (W.alloc (.cells #[.string x] 9))→Below B w' w0):StO w0 B v0 (ws++[x])∧Below B w w0∧w0.heap[b]?=some (.cells #[v1,v2] t (0,0)):=by
 refine ⟨?_,hBl w (hBW.alloc hsz _),?_⟩
 ·unfold StO
  rw [List.length_append,List.map_append]
  exact h
 ·exact ho.keep (((up_alloc W _).block _ (heap_lt hb)).trans hb) (by simpa using ht)
def lyN (l:Ly) (k:Nat):List ByteArray:=(if 0 < k∧0 < kCnt (kindI l.1) then [dgB l.2.1] else [])++(if 1 < k∧1 < kCnt (kindI l.1) then [dgB l.2.2] else [])
theorem lyN_two (l:Ly) (h:kindI l.1 < 5):lyW l=l.1 :: lyN l 2:=by
 unfold lyW lyN kCnt
 rcases (show kindI l.1=0∨kindI l.1=1∨kindI l.1=2∨kindI l.1=3∨kindI l.1=4 by omega) with e|e|e|e|e <;> rw [e] <;> simp
theorem lyN_succ (l:Ly) (k:Nat) (hk:k < 2):lyN l (k+1)=lyN l k++(if k < kCnt (kindI l.1) then [dgB (if k=0 then l.2.1 else l.2.2)] else []):=by
 unfold lyN
 rcases (show k=0∨k=1 by omega) with rfl|rfl
 ·simp
 ·by_cases h0:0 < kCnt (kindI l.1)
  ·simp [h0]
  ·have h1:¬ 1 < kCnt (kindI l.1):=by omega
   simp [h0,h1]
theorem lyN_len (l:Ly) (k:Nat):(lyN l k).length≤2:=by
 unfold lyN
 split <;> split <;> simp
theorem in_at {d:List Int} (h:InOk d) (k:Nat) (hk:k < d.length):1≤d.getD k 0∧d.getD k 0≤1024:=by
 rcases h with ⟨x,rfl,h⟩|⟨x,y,rfl,hx,hy⟩
 ·obtain rfl:k=0:=by simp at hk;omega
  exact h
 ·rcases (show k=0∨k=1 by simp at hk;omega) with rfl|rfl
  ·simp;omega
  ·simp;omega
theorem wdsL_len:∀ ls:List Ly,(ls.flatMap lyW).length≤3*ls.length
 | []=>by simp
 | l :: ls=>by
  have:=wdsL_len ls
  have h2:(lyW l).length≤3:=by unfold lyW;split <;> (try split) <;> simp
  rw [List.flatMap_cons,List.length_append,List.length_cons]
  omega
theorem take_flat (ls:List Ly) (k:Nat) (hk:k < ls.length):(ls.take (k+1)).flatMap lyW=(ls.take k).flatMap lyW++lyW (lyA ls k):=by
 rw [List.take_add_one,List.getElem?_eq_getElem hk,List.flatMap_append]
 unfold lyA
 rw [List.getD_eq_getElem?_getD,List.getElem?_eq_getElem hk]
 simp
theorem take_map (d:List Int) (k:Nat) (hk:k < d.length):(d.take (k+1)).map dgB=(d.take k).map dgB++[dgB (d.getD k 0)]:=by
 rw [List.take_add_one,List.getElem?_eq_getElem hk,List.map_append,List.getD_eq_getElem?_getD,List.getElem?_eq_getElem hk]
 rfl
theorem join_len (K:Nat):∀ (l:List (List UInt8)),(∀ u∈l,u.length≤K)→(Lib.join l [32]).length≤(K+1)*l.length
 | [],_=>by simp [Lib.join]
 | [u],h=>by
  have:=h u (by simp)
  simp [Lib.join]
  omega
 | u :: v :: r,h=>by
  have h1:=h u (by simp)
  have h2:=join_len K (v :: r) fun x hx=>h x (by simp at hx ⊢;right;exact hx)
  have e:Lib.join (u :: v :: r) [32]=u++32 :: Lib.join (v :: r) [32]:=by simp [Lib.join,List.intercalate]
  rw [e,List.length_append,List.length_cons,List.length_cons (a:=u),Nat.mul_succ]
  omega
theorem nDigits_le (u:Nat):Lib.nDigits u≤u+1:=by
 induction u using Nat.strongRecOn with
 | _ u ih=>
  unfold Lib.nDigits
  split
  ·omega
  ·have:=ih (u / 10) (by omega)
   omega
theorem dg_len {x:Int} (h:0≤x∧x≤9999):(dgB x).data.toList.length≤10000:=by
 have:=nDigits_le x.toNat
 show (Lib.decDigits x.toNat).toArray.toList.length≤_
 rw [List.toList_toArray,Lib.decDigits_length]
 omega
theorem netW_len {d:List Int} {ls:List Ly} (hd:InOk d) (hl:∀ l∈ls,LayOk l):∀ w∈netW d ls,w.data.toList.length≤10000:=by
 intro w hw
 unfold netW at hw
 simp only [List.mem_cons,List.mem_append,List.mem_map,List.mem_flatMap] at hw
 rcases hw with rfl|⟨x,hx,rfl⟩|⟨l,hl',hw⟩
 ·decide
 ·obtain ⟨k,hk,rfl⟩:=List.getElem_of_mem hx
  have:=in_at hd k hk
  rw [List.getD_eq_getElem?_getD,List.getElem?_eq_getElem hk] at this
  simp only [Option.getD_some] at this
  exact dg_len (by omega)
 ·have hlo:=hl l hl'
  rw [lyN_two l hlo.1] at hw
  simp only [List.mem_cons] at hw
  rcases hw with rfl|hw
  ·rcases layOk_cases hlo with ⟨e,_⟩|⟨e,_⟩|⟨e,_⟩|⟨e,_⟩|⟨e,_⟩ <;> rw [e] <;> decide
  ·unfold lyN at hw
   rcases layOk_cases hlo with ⟨-,e,h1,h2⟩|⟨-,e,h1,h2⟩|⟨-,e,h1,h2⟩|⟨-,e,h1,h2⟩|⟨-,e,h1,h2⟩ <;> rw [e] at hw <;> simp [kCnt] at hw
   ·subst hw;exact dg_len (by omega)
   ·rcases hw with rfl|rfl
    ·exact dg_len (by omega)
    ·exact dg_len (by omega)
   ·subst hw;exact dg_len (by omega)
   ·subst hw;exact dg_len (by omega)
theorem written_any (p p2:Option Addr) (n c n2 c2:Nat) (d:List Int) (ls:List Ly) (hd:InOk d) (hly:∀ l∈ls,LayOk l) (hls:ls.length≤16) (w:World) (hK:Hid (Kz w)) (hP:Hid (Pz w)) (h1:Nums .i64 w (.slice p n c) d) (hL:LyR 0 w p2 n2 ls):
  Calls Tryz.prog 22 #[.agg #[.slice p n c,.slice p2 n2 c2]] w fun e w'=>e = .returned (.string (joinW (netW d ls)))∧Below w.heap.size w w':=by
 obtain ⟨r,er⟩:∃ r,joinW (netW d ls)=r:=⟨_,rfl⟩
 have HR:Hid (joinW (netW d ls)=r):=er
 rw [er]
 obtain ⟨_,_,_,e,HC⟩:=h1.lst
 cases e
 have hn2:n≤2:=by rw [← HC.out.1];rcases hd with ⟨x,rfl,_⟩|⟨x,y,rfl,_⟩ <;> simp
 have hn16:n2≤16:=by rw [← hL.1];exact hls
 have HG:Hid (InOk d∧(∀ l∈ls,LayOk l)∧LyR 0 w p2 n2 ls):=⟨hd,hly,hL⟩
 clear er h1 hd hly hls hL
 go_enter Tryz.func22,Tryz.ntmps22
 go_wp2_with fail
 generalize hW0:World.alloc _ _=W0
 have HI0:Hid (StO W0 w.heap.size (.slice (some ⟨w.heap.size+1,0,none⟩) 1 1) [kIn]∧Below w.heap.size w W0∧W0.heap[w.heap.size]?=some (.cells #[.slice p n c,.slice p2 n2 c2] 26 (0,0))):=by
  show _∧_∧_
  rw [← hW0]
  refine ⟨⟨rfl,.inr ⟨w.heap.size+1,1,#[.string kIn],rfl,by omega,?_,Nat.le_refl _,by unfold maxLen;omega,rfl,rfl⟩⟩,by go_grown,?_⟩
  ·rw [show w.heap.size+1=(w.alloc (.cells #[.slice p n c,.slice p2 n2 c2] 26)).heap.size by simp]
   exact Array.getElem?_push_size
  ·exact ((up_alloc _ _).block _ (by simp)).trans Array.getElem?_push_size
 clear hW0
 go_loopg [3,16] n (fun gg u v wr=>∃ (k:Nat),k≤n∧gg=n - k∧v = .int .i64 (k:Int)∧Hid (StO wr w.heap.size u (kIn :: (d.take k).map dgB)∧Below w.heap.size w wr∧wr.heap[w.heap.size]?=some (.cells #[.slice p n c,.slice p2 n2 c2] 26 (0,0))))
 case atStart=>exact ⟨0,by omega,by omega,rfl,HI0⟩
 case round=>
  obtain ⟨k,hk,hg,rfl,HI⟩:=hrel
  obtain ⟨pu,nu,cu,rfl,hnu⟩:=HI.out.1.form
  have hnu':nu≤3:=by simp at hnu;omega
  by_cases hkn:k < n
  ·have hk':(k:Int) < (n:Int):=by omega
   have hkl:k < d.length:=by rw [HC.out.1];exact hkn
   obtain ⟨q,o,rfl,c0⟩:=(HC.out.up HI.out.2.1).2 k hkn
   obtain ⟨x,ex⟩:∃ x,d.getD k 0=x:=⟨_,rfl⟩
   have hx:=in_at HG.out.1 k hkl
   rw [ex] at c0 hx
   have ci:=itoa_any x (by omega) wr (Hid.up_pz hP HI.out.2.1)
   have HT:Hid ((d.take (k+1)).map dgB=(d.take k).map dgB++[dgB x]):=by show _=_;rw [← ex];exact take_map d k hkl
   obtain ⟨sx,esx⟩:∃ s,dgB x=s:=⟨_,rfl⟩
   rw [esx] at ci HT
   clear hx ex hkl esx
   go_wp2_with fail
   refine ci.mono ?_
   rintro e w1 ⟨rfl,hB1⟩
   clear ci
   have HI1:Hid (StO w1 w.heap.size (.slice pu nu cu) (kIn :: (d.take k).map dgB)∧Below w.heap.size w w1∧w1.heap[w.heap.size]?=some (.cells #[.slice (some ⟨q,o,none⟩) n c,.slice p2 n2 c2] 26 (0,0))):=⟨HI.out.1.up hB1,bstep HI.out.2.1 hB1,(hB1.block _ (heap_lt HI.out.2.2)).trans HI.out.2.2⟩
   obtain ⟨A1,A2,A3,A4⟩:=st_app HI1.out.1 HI1.out.2.1.size sx
   rw [hnu] at A1
   clear hB1 HI c0
   go_wp2_with (at_builtin;refine wpList_appG strT (by decide) (by decide) rfl (.tmp 20) (.tmp 23) rfl w.heap.size _ _ _ rfl A1.out _ [.string sx] rfl A2.out rfl A3.out (by omega) A4.out ?_;intro v0 w0 H0 O0 B0)
   have HF:Hid (StO w0 w.heap.size v0 (kIn :: (d.take (k+1)).map dgB)∧Below w.heap.size w w0∧w0.heap[w.heap.size]?=some (.cells #[.slice (some ⟨q,o,none⟩) n c,.slice p2 n2 c2] 26 (0,0))):=by
    have:=st_push (by decide) HI1.out.2.1 HI1.out.2.1.size HI1.out.2.2 (by rw [hnu];exact H0.out) O0.out B0.out
    rw [HT.out]
    exact this
   clear A1 A2 A3 A4 H0 O0 B0 HI1
   go_wp2
   go_roundg (n - (k+1))
   case measure=>omega
   case rel=>exact ⟨k+1,by omega,rfl,by first|rfl|simp,HF⟩
  ·obtain rfl:k=n:=by omega
   obtain ⟨D,eD⟩:∃ D,d.map dgB=D:=⟨_,rfl⟩
   have HI1:Hid (StO wr w.heap.size (.slice pu nu cu) (kIn :: D)∧Below w.heap.size w wr∧wr.heap[w.heap.size]?=some (.cells #[.slice p k c,.slice p2 n2 c2] 26 (0,0))):=by
    have:=HI.out
    rw [List.take_of_length_le (by rw [HC.out.1];exact Nat.le_refl _),eD] at this
    exact this
   have HD:Hid (D.length=k∧D=d.map dgB):=⟨by rw [← eD,List.length_map];exact HC.out.1,eD.symm⟩
   obtain ⟨_,⟨g1,_⟩⟩:=box_2 HI1.out.2.2
   clear HI eD hnu
   go_wp2_with fail
   go_loopg [3,29] n2 (fun gg u v wq=>∃ (j:Nat),j≤n2∧gg=n2 - j∧v = .int .i64 (j:Int)∧Hid (StO wq w.heap.size u ((kIn :: D)++(ls.take j).flatMap lyW)∧Below w.heap.size w wq∧wq.heap[w.heap.size]?=some (.cells #[.slice p k c,.slice p2 n2 c2] 26 (0,0))))
   case atStart=>exact ⟨0,by omega,by omega,rfl,by simpa using HI1⟩
   case round=>
    obtain ⟨j,hj,hgj,rfl,HJ⟩:=hrel
    obtain ⟨pw,nw,cw,rfl,hnw⟩:=HJ.out.1.form
    have hnw':nw≤51:=by
     have h1:=wdsL_len (ls.take j)
     have h2:=HD.out.1
     have h3:(ls.take j).length≤j:=by simp;omega
     simp only [List.length_append,List.length_cons] at hnw
     omega
    by_cases hjn:j < n2
    ·have hj':(j:Int) < (n2:Int):=by omega
     have hjl:j < ls.length:=by rw [HG.out.2.2.1];exact hjn
     obtain ⟨q,o,rfl,y0,y1,y2⟩:=(HG.out.2.2.up HJ.out.2.1).2 j hjn
     obtain ⟨l,el⟩:∃ l,lyA ls j=l:=⟨_,rfl⟩
     have hlo:=HG.out.2.1 _ (lyA_mem hjl)
     have HTF:Hid ((ls.take (j+1)).flatMap lyW=(ls.take j).flatMap lyW++lyW l):=by show _=_;rw [← el];exact take_flat ls j hjl
     rw [el] at y0 y1 y2 hlo
     obtain ⟨s,a,b⟩:=l
     simp only [] at y0 y1 y2
     have hlt:=cell_size y0
     have hk5:kindI s < 5:=hlo.1
     have HLW:Hid (lyW (s,a,b)=s :: lyN (s,a,b) 2):=lyN_two (s,a,b) hk5
     have HAB:Hid ((0 < kCnt (kindI s)→0≤a∧a≤9999)∧(1 < kCnt (kindI s)→0≤b∧b≤9999)):=by
      rcases layOk_cases hlo with ⟨-,e,h1,h2⟩|⟨-,e,h1,h2⟩|⟨-,e,h1,h2⟩|⟨-,e,h1,h2⟩|⟨-,e,h1,h2⟩ <;> simp only [] at e h1 h2 <;> exact ⟨fun _=>by omega,fun _=>by omega⟩
     have HKN:Hid (kName (kindI s)=s):=kind_name s hk5
     have ck:Hid (∀ W,Below w.heap.size w W→Calls Tryz.prog 31 #[.string s] W fun e w'=>e = .returned (.tuple #[.agg #[.string s,.int .i64 (kCnt (kindI s)),.int .i64 (kTopA (kindI s)),.int .i64 (kTopB (kindI s))],.bool true])∧Below W.heap.size W w'):=fun W hW=>by
      have:=kindOf_any s W (Hid.up_kz hK hW)
      rw [HKN.out,decide_eq_true hk5] at this
      exact this
     have HNS:Hid (∀ m,m < 2→lyN (s,a,b) (m+1)=lyN (s,a,b) m++(if m < kCnt (kindI s) then [dgB (if m=0 then a else b)] else [])):=fun m hm=>lyN_succ (s,a,b) m hm
     obtain ⟨cn,ecn⟩:∃ cn,kCnt (kindI s)=cn:=⟨_,rfl⟩
     rw [ecn] at ck HAB HNS
     generalize kTopA (kindI s)=tA at ck
     generalize kTopB (kindI s)=tB at ck
     clear hlo hk5 HKN ecn el
     go_wp2_with fail
     generalize hW2:World.alloc _ _=W2
     have hB2:Below wr.heap.size wr W2:=by rw [← hW2];exact up_alloc wr _
     have HB2:Hid (W2.heap[wr.heap.size]?=some (.cells #[.string s,.int .i64 a,.int .i64 b] 65 (0,0))):=by
      show _=_
      rw [← hW2]
      exact Array.getElem?_push_size
     refine (ck.out W2 (bstep HJ.out.2.1 hB2)).mono ?_
     rintro e w3 ⟨rfl,hB3⟩
     have hB23:Below wr.heap.size wr w3:=bstep hB2 hB3
     obtain ⟨W4,eW4⟩:∃ W4,w3.alloc (.cells #[.string s,.int .i64 (cn:Int),.int .i64 tA,.int .i64 tB] 84)=W4:=⟨_,rfl⟩
     have hB4:Below w3.heap.size w3 W4:=by rw [← eW4];exact up_alloc w3 _
     have hB24:=bstep hB23 hB4
     have HI4:Hid (StO W4 w.heap.size (.slice pw nw cw) ((kIn :: D)++(ls.take j).flatMap lyW)∧Below w.heap.size w W4∧W4.heap[w.heap.size]?=some (.cells #[.slice p k c,.slice (some ⟨q,o,none⟩) n2 c2] 26 (0,0))):=⟨HJ.out.1.up hB24,bstep HJ.out.2.1 hB24,(hB24.block _ (heap_lt HJ.out.2.2)).trans HJ.out.2.2⟩
     have HX4:Hid (W4.heap[wr.heap.size]?=some (.cells #[.string s,.int .i64 a,.int .i64 b] 65 (0,0))∧W4.heap[w3.heap.size]?=some (.cells #[.string s,.int .i64 (cn:Int),.int .i64 tA,.int .i64 tB] 84 (0,0))):=⟨((bstep hB3 hB4).block _ (heap_lt HB2.out)).trans HB2.out,by rw [← eW4];exact Array.getElem?_push_size⟩
     obtain ⟨A1,A2,A3,A4⟩:=st_app HI4.out.1 HI4.out.2.1.size s
     rw [hnw] at A1
     have HWK:Hid (∀ w0,Only [9] (W4.alloc (.cells #[.string s] 9)) w0→w0.heap[wr.heap.size]?=some (.cells #[.string s,.int .i64 a,.int .i64 b] 65 (0,0))∧w0.heap[w3.heap.size]?=some (.cells #[.string s,.int .i64 (cn:Int),.int .i64 tA,.int .i64 tB] 84 (0,0))):=fun w0 ho=>⟨ho.keep (((up_alloc W4 _).block _ (heap_lt HX4.out.1)).trans HX4.out.1) (by decide),ho.keep (((up_alloc W4 _).block _ (heap_lt HX4.out.2)).trans HX4.out.2) (by decide)⟩
     have k0:W4.cell? ⟨w3.heap.size,0,none⟩=some (.string s):=(box_4 HX4.out.2).1
     clear hB2 hB3 hB4 hB23 hB24 hW2 HB2 ck HJ y0 y1 y2 HX4
     go_wp2_with (at_builtin;refine wpList_appG strT (by decide) (by decide) rfl (.tmp 39) (.tmp 42) rfl w.heap.size _ _ _ rfl A1.out _ [.string s] rfl A2.out rfl A3.out (by omega) A4.out ?_;intro v0 w0 H0 O0 B0;have hX:=HWK.out w0 O0.out;obtain ⟨_,⟨z1,_⟩,⟨z2,_⟩⟩:=box_3 hX.1)
     have HF:Hid (StO w0 w.heap.size v0 (((kIn :: D)++(ls.take j).flatMap lyW)++[s])∧Below w.heap.size w w0∧w0.heap[w.heap.size]?=some (.cells #[.slice p k c,.slice (some ⟨q,o,none⟩) n2 c2] 26 (0,0))):=st_push (by decide) HI4.out.2.1 HI4.out.2.1.size HI4.out.2.2 (by rw [hnw];exact H0.out) O0.out B0.out
     have HXK:Hid (w0.heap[w3.heap.size]?=some (.cells #[.string s,.int .i64 (cn:Int),.int .i64 tA,.int .i64 tB] 84 (0,0))):=hX.2
     obtain ⟨base,eb⟩:∃ base,((kIn :: D)++(ls.take j).flatMap lyW)++[s]=base:=⟨_,rfl⟩
     have HBL:Hid (base.length≤52∧(kIn :: D)++(ls.take (j+1)).flatMap lyW=base++lyN (s,a,b) 2):=by
      refine ⟨by rw [← eb,List.length_append,hnw];simp;omega,?_⟩
      rw [HTF.out,HLW.out,← eb]
      simp
     rw [eb] at HF
     clear hX z1 z2 A1 A2 A3 A4 H0 O0 B0 HI4 HWK k0 eb eW4 hnw HTF HLW
     go_loopg [3,49] 2 (fun gg u v wr=>∃ (m:Nat),m≤2∧gg=2 - m∧v = .int .i64 (m:Int)∧Hid (StO wr w.heap.size u (base++lyN (s,a,b) m)∧Below w.heap.size w wr∧wr.heap[w.heap.size]?=some (.cells #[.slice p k c,.slice (some ⟨q,o,none⟩) n2 c2] 26 (0,0)))∧Hid (wr.heap[w3.heap.size]?=some (.cells #[.string s,.int .i64 (cn:Int),.int .i64 tA,.int .i64 tB] 84 (0,0))))
     case atStart=>exact ⟨0,by omega,by omega,rfl,by simpa [lyN] using HF,HXK⟩
     case round=>
      obtain ⟨m,hm,hgm,rfl,HM,HMK⟩:=hrel
      obtain ⟨pz,nz,cz,rfl,hnz⟩:=HM.out.1.form
      have hnz':nz≤54:=by
       have h1:=lyN_len (s,a,b) m
       have h2:=HBL.out.1
       rw [List.length_append] at hnz
       omega
      rcases (show m=2∨m=0∨m=1 by omega) with rfl|hm01
      ·have HJ2:Hid (StO wr w.heap.size (.slice pz nz cz) ((kIn :: D)++(ls.take (j+1)).flatMap lyW)∧Below w.heap.size w wr∧wr.heap[w.heap.size]?=some (.cells #[.slice p k c,.slice (some ⟨q,o,none⟩) n2 c2] 26 (0,0))):=by
        show _∧_
        rw [HBL.out.2]
        exact HM.out
       clear HM HMK HXK HF HBL
       go_wp2
       go_roundg (n2 - (j+1))
       case measure=>omega
       case rel=>exact ⟨j+1,by omega,rfl,by first|rfl|simp,HJ2⟩
      have hm2:(m:Int) < 2:=by omega
      obtain ⟨x,ex⟩:∃ x,(if m=0 then a else b)=x:=⟨_,rfl⟩
      have hix:∀ W,(Instr.index 82 (.agg #[.int .i64 a,.int .i64 b]) (.int .i64 (m:Int))).run Tryz.prog W = .ok (.int .i64 x) W:=by
       intro W
       rcases hm01 with rfl|rfl
       ·rw [if_pos rfl] at ex;subst ex;kernel_rfl
       ·rw [if_neg (by omega)] at ex;subst ex;kernel_rfl
      have HNm:=HNS.out m (by omega)
      rw [ex] at HNm
      have c1:=(box_4 HMK.out).2.1
      by_cases hmc:m < cn
      ·have hmc':(m:Int) < (cn:Int):=by omega
       have hx:0≤x∧x≤9999:=by
        rcases hm01 with rfl|rfl
        ·rw [if_pos rfl] at ex;subst ex;exact HAB.out.1 hmc
        ·rw [if_neg (by omega)] at ex;subst ex;exact HAB.out.2 hmc
       rw [if_pos hmc] at HNm
       have ci:=itoa_any x hx wr (Hid.up_pz hP HM.out.2.1)
       obtain ⟨sx,esx⟩:∃ s,dgB x=s:=⟨_,rfl⟩
       rw [esx] at ci HNm
       have HT:Hid (lyN (s,a,b) (m+1)=lyN (s,a,b) m++[sx]):=HNm
       clear HNm esx hx ex hm01
       go_wp2_with fail
       refine ci.mono ?_
       rintro e w5 ⟨rfl,hB5⟩
       have HI5:Hid (StO w5 w.heap.size (.slice pz nz cz) (base++lyN (s,a,b) m)∧Below w.heap.size w w5∧w5.heap[w.heap.size]?=some (.cells #[.slice p k c,.slice (some ⟨q,o,none⟩) n2 c2] 26 (0,0))):=⟨HM.out.1.up hB5,bstep HM.out.2.1 hB5,(hB5.block _ (heap_lt HM.out.2.2)).trans HM.out.2.2⟩
       have HK5:Hid (w5.heap[w3.heap.size]?=some (.cells #[.string s,.int .i64 (cn:Int),.int .i64 tA,.int .i64 tB] 84 (0,0))):=(hB5.block _ (heap_lt HMK.out)).trans HMK.out
       obtain ⟨A1,A2,A3,A4⟩:=st_app HI5.out.1 HI5.out.2.1.size sx
       rw [hnz] at A1
       clear ci hB5 HM HMK c1 HXK HF
       go_wp2_with (at_builtin;refine wpList_appG strT (by decide) (by decide) rfl (.tmp 57) (.tmp 60) rfl w.heap.size _ _ _ rfl A1.out _ [.string sx] rfl A2.out rfl A3.out (by omega) A4.out ?_;intro v6 w6 H0 O0 B0)
       have HF6:Hid (StO w6 w.heap.size v6 (base++lyN (s,a,b) (m+1))∧Below w.heap.size w w6∧w6.heap[w.heap.size]?=some (.cells #[.slice p k c,.slice (some ⟨q,o,none⟩) n2 c2] 26 (0,0))):=by
        have:=st_push (by decide) HI5.out.2.1 HI5.out.2.1.size HI5.out.2.2 (by rw [hnz];exact H0.out) O0.out B0.out
        show _∧_
        rw [HT.out,← List.append_assoc]
        exact this
       have HK6:Hid (w6.heap[w3.heap.size]?=some (.cells #[.string s,.int .i64 (cn:Int),.int .i64 tA,.int .i64 tB] 84 (0,0))):=O0.out.keep (((up_alloc w5 _).block _ (heap_lt HK5.out)).trans HK5.out) (by decide)
       clear A1 A2 A3 A4 H0 O0 B0 HI5 HK5 HT
       go_wp2
       go_roundg (2 - (m+1))
       case measure=>omega
       case rel=>exact ⟨m+1,by omega,rfl,by first|rfl|simp,HF6,HK6⟩
      ·have hmc':(cn:Int)≤(m:Int):=by omega
       rw [if_neg hmc,List.append_nil] at HNm
       have HF6:Hid (StO wr w.heap.size (.slice pz nz cz) (base++lyN (s,a,b) (m+1))∧Below w.heap.size w wr∧wr.heap[w.heap.size]?=some (.cells #[.slice p k c,.slice (some ⟨q,o,none⟩) n2 c2] 26 (0,0))):=by
        show _∧_
        rw [HNm]
        exact HM.out
       clear HM HNm ex hm01 HXK HF
       go_wp2
       go_roundg (2 - (m+1))
       case measure=>omega
       case rel=>exact ⟨m+1,by omega,rfl,by first|rfl|simp,HF6,HMK⟩
    ·obtain rfl:j=n2:=by omega
     have HWS:Hid ((kIn :: D)++(ls.take j).flatMap lyW=netW d ls):=by
      show _=_
      rw [List.take_of_length_le (by rw [HG.out.2.2.1];exact Nat.le_refl _),HD.out.2]
      rfl
     obtain ⟨ws,ews⟩:∃ ws,netW d ls=ws:=⟨_,rfl⟩
     have hJ:=HJ.out.1
     rw [HWS.out,ews] at hJ hnw
     have hws:0 < ws.length:=by rw [← ews];simp [netW]
     rcases hJ.2 with ⟨_,h0⟩|⟨g,cap,cur,e,hBg,hcur,hcc,h7⟩
     ·omega
     cases e
     have hjn:=Tryz.strings_Join g 0 cw ws ⟨#[32]⟩ wr (fun i x hx=>by
      have:=World.ownsRow.cells hJ rfl i (.string x) (by rw [List.getElem?_map,hx];rfl)
      rw [addr_plus] at this
      exact this) (heap_lt hcur) (by omega) hcc ?hjl
     case hjl=>
      have h1:=netW_len HG.out.1 HG.out.2.1
      rw [ews] at h1
      have h2:=join_len 10000 (ws.map (·.data.toList)) fun u hu=>by
       obtain ⟨x,hx,rfl⟩:=List.mem_map.1 hu
       exact h1 x hx
      rw [List.length_map] at h2
      show (Lib.join (ws.map (·.data.toList)) [32]).length≤_
      omega
     have hjn':Calls Tryz.prog 41 #[.slice (some ⟨g,0,none⟩) ws.length cw,.string ⟨#[32]⟩] wr fun e w'=>e = .returned (.string r)∧Below wr.heap.size wr w':=by
      rw [← HR.out,ews]
      exact hjn
     have HB:Hid (Below w.heap.size w wr):=HJ.out.2.1
     clear hjn hJ hcur h7 HJ HWS
     go_wp2_with fail
     refine hjn'.mono ?_
     rintro e w7 ⟨rfl,hB7⟩
     have HB7:Hid (Below w.heap.size w w7):=bstep HB.out hB7
     clear hjn' hB7
     go_wp2
     go_ret
     exact ⟨rfl,HB7.out⟩
theorem few16 {d:List Int} {ls:List Ly} (h:nE d ls=0):InOk d∧(∀ l∈ls,LayOk l)∧ls.length≤16:=by
 obtain ⟨S,hf,hs,ht⟩:=net_good h
 obtain ⟨h1,h2⟩:=(formB_iff d ls).1 hf
 refine ⟨h1,h2,?_⟩
 unfold tooM at ht
 simp only [Bool.or_eq_false_iff,decide_eq_false_iff_not] at ht
 omega
theorem Text_any (p p2:Option Addr) (n c n2 c2:Nat) (d:List Int) (ls:List Ly) (hbig:n2≤1073741823) (w:World) (hK:Hid (Kz w)) (hP:Hid (Pz w)) (h1:Nums .i64 w (.slice p n c) d) (hL:LyR 0 w p2 n2 ls):
  Calls Tryz.prog 9 #[.agg #[.slice p n c,.slice p2 n2 c2]] w fun e w'=>e = .returned (.string (netT d ls))∧Below w.heap.size w w':=by
 obtain ⟨E,eE⟩:∃ E,nE d ls=E:=⟨_,rfl⟩
 obtain ⟨r,er⟩:∃ r,netT d ls=r:=⟨_,rfl⟩
 obtain ⟨sl,esl⟩:∃ sl,(nS d ls).length=sl:=⟨_,rfl⟩
 have cS:Hid (∀ W,Below w.heap.size w W→Calls Tryz.prog 17 #[.agg #[.slice p n c,.slice p2 n2 c2]] W fun e w'=>∃ ps cs,e = .returned (.tuple #[.slice ps sl cs,.int .i64 E])∧Below W.heap.size W w'):=fun W hW=>by
  have:=Shapes_any p p2 n c n2 c2 d ls hbig W (Hid.up_kz hK hW) (h1.up hW) (hL.up hW)
  rw [eE,esl] at this
  exact this.mono fun e w' ⟨ps,cs,h1,_,h2⟩=>⟨ps,cs,h1,h2⟩
 have HE:Hid (nE d ls=E∧netT d ls=r):=⟨eE,er⟩
 have HA:Hid (Nums .i64 w (.slice p n c) d∧LyR 0 w p2 n2 ls):=⟨h1,hL⟩
 rw [er]
 clear eE er esl h1 hL
 go_enter Tryz.func9,Tryz.ntmps9
 go_wp2_with fail
 generalize hW0:World.alloc _ _=W0
 have HB0:Hid (Below w.heap.size w W0):=by rw [← hW0];exact up_alloc w _
 obtain ⟨g0,g1⟩:W0.cell? ⟨w.heap.size,0,none⟩=some (.slice p n c)∧W0.cell? ⟨w.heap.size,1,none⟩=some (.slice p2 n2 c2):=by rw [← hW0];simp [go_sem]
 clear hW0
 refine (cS.out W0 HB0.out).mono ?_
 rintro e w1 ⟨ps,cs,rfl,hB1⟩
 have HB1:Hid (Below w.heap.size w w1):=bstep HB0.out hB1
 replace g0:=still_cell hB1 g0
 replace g1:=still_cell hB1 g1
 clear cS hB1
 by_cases h0:E=0
 ·subst h0
  obtain ⟨f1,f2,f3⟩:=few16 HE.out.1
  have cw:=written_any p p2 n c n2 c2 d ls f1 f2 f3 w1 (Hid.up_kz hK HB1.out) (Hid.up_pz hP HB1.out) (HA.out.1.up HB1.out) (HA.out.2.up HB1.out)
  rw [show joinW (netW d ls)=r by rw [← HE.out.2];unfold netT;rw [if_pos HE.out.1]] at cw
  clear f1 f2 f3
  go_wp2_with fail
  refine cw.mono ?_
  rintro e w2 ⟨rfl,hB2⟩
  have HB2:Hid (Below w.heap.size w w2):=bstep HB1.out hB2
  clear cw hB2
  go_wp2
  go_ret
  exact ⟨rfl,HB2.out⟩
 ·have hE':(E != 0)=true:=by simpa using h0
  have er:r=⟨#[]⟩:=by rw [← HE.out.2];unfold netT;rw [if_neg (by rw [HE.out.1];exact h0)]
  subst er
  go_wp2
  go_ret
  exact ⟨rfl,HB1.out⟩
end Go.Proofs.YtihjnbbhpojnpaaGreatDoor.Wd
