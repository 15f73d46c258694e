/- The reference's Parse. -/
import Derived.Test.YtihjnbbhpojnpaaGreatDoorQ19
set_option linter.unusedVariables false
set_option linter.unusedSimpArgs false
set_option maxHeartbeats 16000000
set_option maxRecDepth 16000
namespace Go.Proofs.YtihjnbbhpojnpaaGreatDoor.Wd
open Go.RowKit
/-- What Parse answers. -/
def PaR (s:ByteArray) (w:World) (e:Ending) (W:World):Prop:=(∃ p n c p2 n2 c2,e = .returned (.tuple #[.agg #[.slice p n c,.slice p2 n2 c2],.int .i64 (pE s)])∧Nums .i64 W (.slice p n c) (pX s).1∧LyR 0 W p2 n2 (pX s).2)∧Below w.heap.size w W
theorem PaR.bad {s:ByteArray} {w W:World} {E:Int} (h:pE s=E) (h0:E≠0) (hB:Below w.heap.size w W):PaR s w (.returned (.tuple #[.agg #[.slice none 0 0,.slice none 0 0],.int .i64 E])) W:=by
 have e:pX s=([],[]):=by unfold pX;rw [if_neg (by rw [h];exact h0)]
 exact ⟨⟨none,0,0,none,0,0,by rw [h],by rw [e];exact .inl ⟨rfl,rfl⟩,by rw [e];exact ⟨rfl,fun i hi=>by omega⟩⟩,hB⟩
theorem pE_none {s:ByteArray} (h:s.size≤16384) (hp:parW (wordsB s)=none):pE s=7:=by
 unfold pE
 rw [if_neg (by omega),hp]
theorem pE_some {s:ByteArray} {x:List Int×List Ly} (h:s.size≤16384) (hp:parW (wordsB s)=some x):pE s=nE x.1 x.2∧(nE x.1 x.2=0→pX s=x):=by
 have e:pE s=nE x.1 x.2:=by unfold pE;rw [if_neg (by omega),hp]
 exact ⟨e,fun h0=>by unfold pX;rw [if_pos (by rw [e];exact h0),hp];rfl⟩
theorem numsA_end (m:Nat):numsA [] m=([],[]):=by cases m <;> rfl
theorem drop_at (ws:List ByteArray) (i:Nat) (h:i < ws.length):ws.drop i=wdA ws i :: ws.drop (i+1):=by
 rw [List.drop_eq_getElem_cons h]
 unfold wdA
 rw [List.getD_eq_getElem?_getD,List.getElem?_eq_getElem h]
 rfl
theorem kCnt_le (z:Nat):kCnt z≤2:=by
 unfold kCnt
 split
 ·omega
 ·split <;> omega
theorem ownsRow_form {W:World} {B:Nat} {e:TypeId} {s n:Nat} {v:Value} {xs:List Value} (h:W.ownsRow B e s v (n+1) xs):∃ p c,v = .slice p (n+1) c:=by
 rcases h.2 with ⟨_,h0⟩|⟨g,cap,cur,e,_⟩
 ·exact absurd h0 (Nat.succ_ne_zero n)
 ·exact ⟨_,_,e⟩
theorem numG:GT Tryz.prog 23 3 1 8:=⟨Tryz.underlying23,by kernel_rfl⟩
theorem rparse_any (s:ByteArray) (w:World):
  Calls Tryz.prog 6 #[.string s] w fun e w'=>PaR s w e w':=by
 haveI:Nonempty World:=⟨w⟩
 go_enter Tryz.func6,Tryz.ntmps6
 obtain ⟨sz,esz⟩:∃ n,s.size=n:=⟨_,rfl⟩
 have HSZ:Hid (s.size=sz):=esz
 by_cases hbig:16384 < sz
 ·have hb':(16384:Int) < (sz:Int):=by omega
  have HE:Hid (pE s=2):=by show _=_;unfold pE;rw [if_pos (by rw [esz];exact hbig)]
  go_wp2
  exact bodyPost_ret (v:=.tuple #[.agg #[.slice none 0 0,.slice none 0 0],.int .i64 2]) (by simp [results,Tryz.results6,go_sem]) rfl (PaR.bad HE.out (by decide) (up_alloc w _))
 have hb':(sz:Int)≤16384:=by omega
 have HSM:Hid (s.size≤16384):=by show _≤_;omega
 go_wp2_with fail
 clear esz
 generalize hW0:World.alloc _ _=W0
 have HX0:Hid (W0.heap[w.heap.size]?=some (.cells #[.slice none 0 0,.slice none 0 0] 32 (0,0))∧Below w.heap.size w W0):=by
  rw [← hW0]
  exact ⟨heap_alloc_new w _,up_alloc w _⟩
 clear hW0
 obtain ⟨ws,ews⟩:∃ ws,wordsB s=ws:=⟨_,rfl⟩
 have HWS:Hid (wordsB s=ws∧ws.length≤16384):=⟨ews,by rw [← ews];exact Nat.le_trans (words_few s) HSM.out⟩
 have cW:=rwords_any s HSM.out W0
 rw [ews] at cW
 clear ews
 refine cW.mono ?_
 rintro e w1 ⟨v1,rfl,hv1,hB1⟩
 obtain ⟨pv,nv,cv,rfl,hnv⟩:=hv1.form
 have HV1:Hid (StrV w1 (.slice pv nv cv) ws∧ws.length=nv):=⟨hv1.strV,hnv⟩
 have HX1:Hid (w1.heap[w.heap.size]?=some (.cells #[.slice none 0 0,.slice none 0 0] 32 (0,0))∧Below w.heap.size w w1):=⟨(hB1.block _ (heap_lt HX0.out.1)).trans HX0.out.1,bstep HX0.out.2 hB1⟩
 have hnv':(nv:Int)≤16384:=by have:=HWS.out.2;omega
 clear cW hv1 hB1 hnv HX0
 by_cases h2:nv < 2
 ·have h2':(nv:Int) < 2:=by omega
  have HE:Hid (pE s=7):=pE_none HSM.out (by
   rw [HWS.out.1]
   have hl:=HV1.out.2
   match ws,hl with
   | [],_=>rfl
   | [u],_=>exact if_neg fun h=>h.2 rfl
   | _ :: _ :: _,hl=>simp at hl;omega)
  obtain ⟨⟨x0_,y0_⟩,⟨x1_,y1_⟩⟩:=box_2 HX1.out.1
  have kx_:=cell_size x0_
  go_wp2
  generalize hU:World.setCell _ _ _=U
  obtain ⟨u0,u1,hBU,_⟩:=two_set HX1.out.1 hU
  exact bodyPost_ret (v:=.tuple #[.agg #[.slice none 0 0,.slice none 0 0],.int .i64 7]) (by simp [results,Tryz.results6,go_sem,u0,u1]) rfl (PaR.bad HE.out (by decide) (hBU w _ (Nat.le_refl _) HX1.out.2))
 have h2':(2:Int)≤(nv:Int):=by omega
 have i0:(0:Int) < (nv:Int):=by omega
 obtain ⟨qv,ov,e,d0⟩:∃ q o,pv=some ⟨q,o,none⟩∧w1.cell? ⟨q,o,none⟩=some (.string (wdA ws 0)):=by
  obtain ⟨pp,cc,e,hcc,hcell⟩:=HV1.out.1
  cases e
  obtain ⟨q,o,e,h⟩:=hcell 0 (by rw [HV1.out.2];omega)
  exact ⟨q,o,e,by rw [Nat.add_zero] at h;exact h⟩
 subst e
 obtain ⟨u,eu⟩:∃ u,wdA ws 0=u:=⟨_,rfl⟩
 rw [eu] at d0
 have kd:=cell_size d0
 obtain ⟨us,HUS⟩:∃ us,Hid (ws=u :: us∧us=ws.drop 1):=by
  have hl:=HV1.out.2
  match ws,hl,eu with
  | a :: r,_,eu=>exact ⟨r,by rw [← eu];rfl,rfl⟩
  | [],hl,_=>simp at hl;omega
 clear eu
 by_cases hu:u=kIn
 case neg=>
  have hu':=in_ne hu
  have hu2:(!u.toList == [105,110])=true:=by rw [hu'];rfl
  have HE:Hid (pE s=7):=pE_none HSM.out (by rw [HWS.out.1,HUS.out.1,parW_cons,if_neg fun h=>hu h.1])
  clear hu
  obtain ⟨⟨x0_,y0_⟩,⟨x1_,y1_⟩⟩:=box_2 HX1.out.1
  have kx_:=cell_size x0_
  go_wp2
  generalize hU:World.setCell _ _ _=U
  obtain ⟨u0,u1,hBU,_⟩:=two_set HX1.out.1 hU
  exact bodyPost_ret (v:=.tuple #[.agg #[.slice none 0 0,.slice none 0 0],.int .i64 7]) (by simp [results,Tryz.results6,go_sem,u0,u1]) rfl (PaR.bad HE.out (by decide) (hBU w _ (Nat.le_refl _) HX1.out.2))
 subst hu
 have hu':=in_eq
 have hu2:(!kIn.toList == [105,110])=false:=by rw [hu'];rfl
 go_upto_block 0 with fail
 generalize hW2:World.alloc _ _=W2
 have HX2:Hid (W2.heap[w.heap.size]?=some (.cells #[.slice none 0 0,.slice none 0 0] 32 (0,0))∧W2.heap[w1.heap.size]?=some (.cells #[.slice none 0 0,.slice none 0 0] 32 (0,0))∧Below w.heap.size w W2∧Below w1.heap.size w1 W2):=by
  rw [← hW2]
  have hb:=up_alloc w1 (.cells #[.slice none 0 0,.slice none 0 0] 32)
  exact ⟨(hb.block _ (heap_lt HX1.out.1)).trans HX1.out.1,heap_alloc_new w1 _,bstep HX1.out.2 hb,hb⟩
 have HSZ1:Hid (w.heap.size < w1.heap.size):=heap_lt HX1.out.1
 have hw01:w.heap.size≠w1.heap.size:=by have:=HSZ1.out;omega
 clear hW2 d0 kd
 go_cut [6] from 30 to 57 (fun v6 wx=>∃ (i:Nat) (acc:List Int) (vI:Value),v6 = .int .i64 (i:Int)∧Hid (numsA us 2=(acc,ws.drop i)∧i≤nv∧1≤i)∧Hid (wx.heap[w.heap.size]?=some (.cells #[.slice none 0 0,.slice none 0 0] 32 (0,0))∧wx.heap[w1.heap.size]?=some (.cells #[vI,.slice none 0 0] 32 (0,0))∧Below w.heap.size w wx∧Below w1.heap.size w1 wx)∧Hid (OwnK .i64 3 wx w1.heap.size vI acc))
 case first=>
  go_wp2_with fail
  go_loopg [6] 2 (fun gg v6 wr=>∃ (i:Nat) (acc:List Int) (vI:Value),(i≤3∧1≤i∧i≤nv)∧gg=3 - i∧v6 = .int .i64 (i:Int)∧Hid (numsA us 2=(acc++(numsA (ws.drop i) (3 - i)).1,(numsA (ws.drop i) (3 - i)).2)∧acc.length+1=i)∧Hid (wr.heap[w.heap.size]?=some (.cells #[.slice none 0 0,.slice none 0 0] 32 (0,0))∧wr.heap[w1.heap.size]?=some (.cells #[vI,.slice none 0 0] 32 (0,0))∧Below w.heap.size w wr∧Below w1.heap.size w1 wr)∧Hid (OwnK .i64 3 wr w1.heap.size vI acc))
  case atStart=>
   refine ⟨1,[],.slice none 0 0,by omega,rfl,rfl,⟨?_,rfl⟩,HX2,OwnK.nil _ _ _ _⟩
   show numsA us 2=([]++(numsA (ws.drop 1) 2).1,(numsA (ws.drop 1) 2).2)
   rw [← HUS.out.2]
   rfl
  case round=>
   obtain ⟨i,acc,vI,hi,hg,rfl,HA,HI,HO⟩:=hrel
   obtain ⟨hi3,hi1,hin⟩:=hi
   have hi1':(1:Int)≤(i:Int):=by omega
   by_cases hex:i < nv
   case neg=>
    have hx':(nv:Int)≤(i:Int):=by omega
    have hfin:numsA us 2=(acc,ws.drop i):=by
     have h:=HA.out.1
     rw [List.drop_eq_nil_of_le (by rw [HV1.out.2];omega),numsA_end] at h
     rw [h,List.drop_eq_nil_of_le (by rw [HV1.out.2];omega)]
     simp
    have HFI:Hid (numsA us 2=(acc,ws.drop i)∧i≤nv∧1≤i):=⟨hfin,hin,hi1⟩
    clear hfin
    go_wp2
    go_meet
    case rel=>exact ⟨i,acc,vI,rfl,HFI,HI,HO⟩
   have hx':(i:Int) < (nv:Int):=by omega
   by_cases h3:i < 3
   case neg=>
    have h3':(3:Int)≤(i:Int):=by omega
    have HFI:Hid (numsA us 2=(acc,ws.drop i)∧i≤nv∧1≤i):=by
     refine ⟨?_,hin,hi1⟩
     have h:=HA.out.1
     rw [show 3 - i=0 by omega,numsA_zero] at h
     rw [h]
     simp
    go_wp2
    go_meet
    case rel=>exact ⟨i,acc,vI,rfl,HFI,HI,HO⟩
   have h3':(i:Int) < 3:=by omega
   obtain ⟨x,ex⟩:∃ x,wdA ws i=x:=⟨_,rfl⟩
   have HDR:Hid (ws.drop i=x :: ws.drop (i+1)):=by show _=_;rw [drop_at ws i (by rw [HV1.out.2];exact hex),ex]
   have HCX:Hid (∀ W,Below w1.heap.size w1 W→W.cell? ⟨qv,ov+i,none⟩=some (.string x)):=fun W hW=>by
    obtain ⟨pp,cc,e,hcc,hcell⟩:=HV1.out.1.up hW
    cases e
    obtain ⟨q,o,e,h⟩:=hcell i (by rw [HV1.out.2];exact hex)
    cases e
    rw [ex] at h
    exact h
   have cx:=HCX.out wr HI.out.2.2.2
   have kx:=cell_size cx
   have cN:=rnumber_any x
   clear ex
   cases hnb:numB x with
   | none=>
    rw [hnb] at cN
    have HFI:Hid (numsA us 2=(acc,ws.drop i)∧i≤nv∧1≤i):=by
     refine ⟨?_,hin,hi1⟩
     have h:=HA.out.1
     rw [HDR.out,show 3 - i=(2 - i)+1 by omega,numsA_none hnb] at h
     rw [h,HDR.out]
     simp
    clear hnb
    go_wp2_with fail
    refine (cN _).mono ?_
    rintro e w3 ⟨rfl,rfl⟩
    clear cN
    go_wp2
    go_meet
    case rel=>exact ⟨i,acc,vI,rfl,HFI,HI,HO⟩
   | some v=>
    rw [hnb] at cN
    have hv:=numB_rng hnb
    have HNX:Hid (numsA us 2=((acc++[v])++(numsA (ws.drop (i+1)) (3 - (i+1))).1,(numsA (ws.drop (i+1)) (3 - (i+1))).2)∧(acc++[v]).length+1=i+1):=by
     refine ⟨?_,by have:=HA.out.2;simp;omega⟩
     have h:=HA.out.1
     rw [HDR.out,show 3 - i=(3 - (i+1))+1 by omega,numsA_some hnb] at h
     rw [h]
     simp
    clear hnb
    have HCN:Hid (∀ W,Calls Tryz.prog 19 #[.string x] W fun e w'=>e = .returned (.int .i64 v)∧w'=W):=cN
    go_wp2_with fail
    refine (cN _).mono ?_
    rintro e w3 ⟨rfl,rfl⟩
    clear cN
    obtain ⟨pI,nI,cI,rfl,hnI⟩:∃ pI nI cI,vI = .slice pI nI cI∧acc.length=nI:=by
     obtain ⟨pI,nI,cI,e,h⟩:=HO.out.nums.lst
     exact ⟨pI,nI,cI,e,h.out.1⟩
    have HL9:Hid (w3.ownsRow w1.heap.size 3 1 (.slice pI nI cI) nI (vals .i64 acc)):=by
     have h:=HO.out
     unfold OwnK at h
     rw [hnI] at h
     exact h
    have HNI:Hid (acc.length=nI):=hnI
    have hnI9:nI+1≤1073741825:=by have:=HA.out.2;omega
    have HRW:Hid (∀ z,Value.ownBlock (.slice pI nI cI)=some z→z < w3.heap.size):=fun z hz'=>(World.ownsRow.lt HL9.out z hz').2
    have HZ9:Hid (w1.heap.size≤w3.heap.size):=HI.out.2.2.2.size
    have HG:Hid (∀ W,w3.grownBy W (Value.ownBlock (.slice pI nI cI))→Only [3] w3 W∧Below w1.heap.size w1 W∧Below w.heap.size w W):=fun W hW=>by
     have h1:=Below.grown HI.out.2.2.2 hW HZ9.out fun k hk=>(World.ownsRow.lt HL9.out k hk).1
     exact ⟨grown_only HL9.out hW,h1,bstep HX1.out.2 h1⟩
    have HQ:Hid (∀ W,w3.grownBy W (Value.ownBlock (.slice pI nI cI))→W.cell? ⟨w1.heap.size,0,none⟩=some (.slice pI nI cI)∧W.cell? ⟨qv,ov+i,none⟩=some (.string x)):=fun W hW=>by
     obtain ⟨h1,h2,_⟩:=HG.out W hW
     exact ⟨(box_2 (h1.keep HI.out.2.1 (by decide))).1.1,HCX.out W h2⟩
    clear hnI cx kx HA
    go_wp2
    refine from_region (by kernel_rfl) ?_
    refine seg (fun q W=>match q with|false=>Below w3.heap.size w3 W|true=>w3.grownBy W (Value.ownBlock (.slice pI nI cI))) (fun W W'=>W.grownBy W' (Value.ownBlock (.slice pI nI cI))) 8 [⟨7,53,LitS 3 w3.heap.size [.int .i64 v]⟩,⟨8,54,OwnG 3 1 w1.heap.size (nI+1) (vals .i64 acc++[.int .i64 v])⟩] 0 10 146 rfl rfl (by kernel_rfl) (by rfl) ?_ ?_ ?_ ?_ ?_ ?_
    ·intro q W W' h hb
     cases q
     ·exact bstep h hb
     ·exact grown_up h hb
    ·exact ⟨rfl,rfl,rfl,Nat.le_refl _,fun _ _=>rfl⟩
    ·exact .inl ⟨_,List.mem_cons_of_mem _ List.mem_cons_self,rfl⟩
    ·intro e he v W W' h hb
     simp only [List.mem_cons,List.not_mem_nil,or_false] at he
     rcases he with rfl|rfl
     ·exact LitS.up h hb
     ·exact OwnG.up h hb
    ·intro e he hne v W W' h hc ht
     simp only [List.mem_cons,List.not_mem_nil,or_false] at he
     rcases he with rfl|rfl
     ·exact LitS.grown h ht HRW.out
     ·exact absurd rfl hne
    apply Exists.intro
    refine ⟨fun x=>?_,?_,?_⟩
    ·simp only [List.drop_succ_cons,List.drop_zero,List.take_succ_cons,List.take_zero]
     iterate 6
      refine segQuiet rfl rfl ?_
      apply Exists.intro
      refine ⟨fun b' F hF hf K hK=>?_,?_⟩
      ·have hFc:=hF.cls
       have q:=fun d=>HQ.out (F d) (by
        cases b'
        ·exact below_grown _ (hFc d)
        ·exact hFc d)
       have q1:=fun d=>(q d).1
       have q2:=fun d=>(q d).2
       clear hFc q
       go_big_quiet_op
       first|exact hK|(apply Exists.intro;refine ⟨fun _=>?_,?_⟩;(· fail);exact hK)
      (try simp only [Act.put,List.setIfInBounds_toArray,List.set_cons_zero,List.set_cons_succ])
     refine segQuiet rfl rfl ?_
     apply Exists.intro
     refine ⟨fun b' F hF hf K hK=>?_,?_⟩
     ·have hFc:=hF.cls
      have q:=fun d=>HQ.out (F d) (by
       cases b'
       ·exact below_grown _ (hFc d)
       ·exact hFc d)
      have q1:=fun d=>(q d).1
      have q2:=fun d=>(q d).2
      clear hFc q
      go_big_quiet_op
      first|exact hK|(apply Exists.intro;refine ⟨fun _=>?_,?_⟩;(· exact hF.call ((HCN.out _).mono fun e w' h=>⟨h.1,h.2 ▸ Below.refl _ _⟩));exact hK)
     (try simp only [Act.put,List.setIfInBounds_toArray,List.set_cons_zero,List.set_cons_succ])
     refine segTold rfl (by decide) rfl ?_ ?_
     ·intro b' F hF hf d
      have hFc:=hF.cls
      have hcls:w3.heap.size≤(F d).heap.size:=by
       cases b'
       ·exact (hFc d).size
       ·exact (hFc d).size
      simp [yieldsR,yieldsUpon,go_sem]
      exact ⟨⟨(F d).heap.size,rfl,heap_alloc_new (F d) _,hcls⟩,up_alloc _ _⟩
     (try simp only [Act.put,List.setIfInBounds_toArray,List.set_cons_zero,List.set_cons_succ])
     refine segBusy rfl rfl rfl ?_ ?_
     ·intro W hW hf
      have h7:=hf _ List.mem_cons_self (by rfl) W
      obtain ⟨g7,e7,hg7,_⟩:=h7
      simp only [] at e7
      obtain ⟨g8,c8,w8,hr8,ho8,hgr8⟩:=appGr numG (by decide) (by decide) 23 W w1.heap.size (.slice pI nI cI) nI (vals .i64 acc) (owns_only (S:=[]) HL9.out (Only.of hW) (by simp)) g7 [.int .i64 v] hg7 rfl (fun x hx=>by simp at hx;subst hx;rfl) hnI9 (Nat.le_trans HZ9.out (Below.size hW))
      simp [leavesR,leavesUpon,execOp,resolve,invoke,builtin,Act.eval,e7,hr8,Result.andThen]
      exact ⟨⟨g8,c8,rfl,ho8⟩,grown_trans (below_grown _ hW) hgr8,hgr8⟩
     (try simp only [Act.put,List.setIfInBounds_toArray,List.set_cons_zero,List.set_cons_succ])
     refine segQuiet rfl rfl ?_
     apply Exists.intro
     refine ⟨fun b' F hF hf K hK=>?_,?_⟩
     ·have hFc:=hF.cls
      have q:=fun d=>HQ.out (F d) (by
       cases b'
       ·exact below_grown _ (hFc d)
       ·exact hFc d)
      have q1:=fun d=>(q d).1
      have q2:=fun d=>(q d).2
      clear hFc q
      go_big_quiet_op
      first|exact hK|(apply Exists.intro;refine ⟨fun _=>?_,?_⟩;(· fail);exact hK)
     (try simp only [Act.put,List.setIfInBounds_toArray,List.set_cons_zero,List.set_cons_succ])
     refine segEnd ?_
     exact rfl
    ·exact fun x=>rfl
    ·intro w8 xs8 hC8 hf8
     refine from_list 10 (by kernel_rfl) ?_
     simp only [List.drop_succ_cons,List.drop_zero]
     have h8:=hf8 _ (List.mem_cons_of_mem _ List.mem_cons_self)
     obtain ⟨x5,e5⟩:∃ z,xs8 7=z:=⟨_,rfl⟩
     obtain ⟨x6,e6⟩:∃ z,xs8 8=z:=⟨_,rfl⟩
     simp only [e6] at h8
     simp only [e5,e6]
     obtain ⟨g8,c8,rfl,h8⟩:=h8
     have hO8:=HG.out w8 hC8
     have hv8:=hO8.1.keep HI.out.2.1 (by decide)
     obtain ⟨⟨r0,r1⟩,_⟩:=box_2 hv8
     have HF:Hid ((w8.setCell ⟨w1.heap.size,0,none⟩ (.slice (some ⟨g8,0,none⟩) (nI+1) c8)).heap[w.heap.size]?=some (.cells #[.slice none 0 0,.slice none 0 0] 32 (0,0))∧(w8.setCell ⟨w1.heap.size,0,none⟩ (.slice (some ⟨g8,0,none⟩) (nI+1) c8)).heap[w1.heap.size]?=some (.cells #[.slice (some ⟨g8,0,none⟩) (nI+1) c8,.slice none 0 0] 32 (0,0))∧Below w.heap.size w (w8.setCell ⟨w1.heap.size,0,none⟩ (.slice (some ⟨g8,0,none⟩) (nI+1) c8))∧Below w1.heap.size w1 (w8.setCell ⟨w1.heap.size,0,none⟩ (.slice (some ⟨g8,0,none⟩) (nI+1) c8))):=by
      refine ⟨?_,?_,hO8.2.2.setCell (p:=⟨w1.heap.size,0,none⟩) (Nat.le_of_lt HSZ1.out) _,hO8.2.1.setCell (p:=⟨w1.heap.size,0,none⟩) (Nat.le_refl _) _⟩
      ·rw [heap_set _ _ _ _ _ hw01]
       exact hO8.1.keep HI.out.1 (by decide)
      ·rw [heap_setat hv8]
       rfl
     have HF2:Hid (OwnK .i64 3 (w8.setCell ⟨w1.heap.size,0,none⟩ (.slice (some ⟨g8,0,none⟩) (nI+1) c8)) w1.heap.size (.slice (some ⟨g8,0,none⟩) (nI+1) c8) (acc++[v])):=by
      have h9:=owns_only (S:=[32]) h8 (Only.set (o:=0) (x:=.slice (some ⟨g8,0,none⟩) (nI+1) c8) hv8 (by simp)) (by decide)
      show World.ownsRow _ _ _ _ _ _ _
      rw [List.length_append,HNI.out]
      unfold vals at h9 ⊢
      rw [List.map_append]
      exact h9
     clear hO8 hv8 h8 hf8 hC8 e5 e6
     go_wp2
     go_roundg (3 - (i+1))
     case measure=>omega
     case rel=>exact ⟨i+1,acc++[v],_,by omega,rfl,by first|rfl|simp,HNX,HF,HF2⟩
 case rest=>
  obtain ⟨i,acc,vI,rfl,HA,HI,HO⟩:=hcut
  obtain ⟨pI,nI,cI,rfl,hnI⟩:∃ pI nI cI,vI = .slice pI nI cI∧acc.length=nI:=by
   obtain ⟨pI,nI,cI,e,h⟩:=HO.out.nums.lst
   exact ⟨pI,nI,cI,e,h.out.1⟩
  obtain ⟨⟨m0,_⟩,⟨m1,_⟩⟩:=box_2 HI.out.2.1
  have km:=cell_size m0
  by_cases hz:nI=0
  ·have hz':((nI:Int)==0)=true:=by rw [hz];rfl
   have HE:Hid (pE s=7):=pE_none HSM.out (by
    have h0:acc = []:=List.eq_nil_of_length_eq_zero (by omega)
    rw [HWS.out.1,HUS.out.1,parW_cons,HA.out.1,h0]
    exact if_neg fun h=>h.2 rfl)
   clear hz hnI
   obtain ⟨⟨x0_,y0_⟩,⟨x1_,y1_⟩⟩:=box_2 HI.out.1
   have kx_:=cell_size x0_
   go_wp2
   generalize hU:World.setCell _ _ _=U
   obtain ⟨u0,u1,hBU,_⟩:=two_set HI.out.1 hU
   exact bodyPost_ret (v:=.tuple #[.agg #[.slice none 0 0,.slice none 0 0],.int .i64 7]) (by simp [results,Tryz.results6,go_sem,u0,u1]) rfl (PaR.bad HE.out (by decide) (hBU w _ (Nat.le_refl _) HI.out.2.2.1))
  have hz':((nI:Int)==0)=false:=by simpa using (show (nI:Int)≠0 by omega)
  have HP:Hid (parW ws=(parL (ws.drop i).length (ws.drop i)).map fun l=>(acc,[]++l)):=by
   show _=_
   have h0:acc≠[]:=fun h=>hz (by rw [← hnI,h];rfl)
   have e:=HA.out.1
   rw [HUS.out.1,parW_cons,e,if_pos ⟨rfl,h0⟩,← HUS.out.1]
   simp
  have hin:=HA.out.2.1
  clear hz hnI
  go_wp2_with fail
  go_loopg [6] (nv - i) (fun gg v6 wr=>∃ (j:Nat) (aL:List Ly) (vL:Value),j≤nv∧gg=nv - j∧v6 = .int .i64 (j:Int)∧Hid (parW ws=(parL (ws.drop j).length (ws.drop j)).map fun l=>(acc,aL++l))∧Hid (aL.length≤j)∧Hid (wr.heap[w.heap.size]?=some (.cells #[.slice none 0 0,.slice none 0 0] 32 (0,0))∧wr.heap[w1.heap.size]?=some (.cells #[.slice pI nI cI,vL] 32 (0,0))∧Below w.heap.size w wr∧Below w1.heap.size w1 wr)∧Hid (OwnK .i64 3 wr w1.heap.size (.slice pI nI cI) acc)∧Hid (wr.ownsRow w1.heap.size 61 3 vL aL.length (aL.flatMap lyC)))
  case atStart=>exact ⟨i,[],.slice none 0 0,hin,rfl,rfl,HP,Nat.zero_le _,HI,HO,⟨rfl,.inl ⟨rfl,rfl⟩⟩⟩
  case round=>
   obtain ⟨j,aL,vL,hj,hg,rfl,HPj,HLj,HJ,HOj,HRj⟩:=hrel
   obtain ⟨pL,nL,cL,rfl,hnL⟩:∃ pL nL cL,vL = .slice pL nL cL∧aL.length=nL:=by
    rcases HRj.out.2 with ⟨rfl,h0⟩|⟨g,cap,cur,rfl,_⟩
    ·exact ⟨none,0,0,rfl,h0⟩
    ·exact ⟨_,_,_,rfl,rfl⟩
   obtain ⟨⟨m0,_⟩,⟨m1,m1f⟩⟩:=box_2 HJ.out.2.1
   have km:=cell_size m0
   by_cases hjn:j < nv
   ·obtain ⟨wa,ewa⟩:∃ wa:World,wa=wr:=⟨_,rfl⟩
    subst ewa
    have hj':(j:Int) < (nv:Int):=by omega
    obtain ⟨u,eu⟩:∃ x,wdA ws j=x:=⟨_,rfl⟩
    have HDR:Hid (ws.drop j=u :: ws.drop (j+1)):=by show _=_;rw [drop_at ws j (by rw [HV1.out.2];exact hjn),eu]
    have HCX:Hid (∀ W,Below w1.heap.size w1 W→∀ t,t < nv→W.cell? ⟨qv,ov+t,none⟩=some (.string (wdA ws t))):=fun W hW t ht=>by
     obtain ⟨pp,cc,e,hcc,hcell⟩:=HV1.out.1.up hW
     cases e
     obtain ⟨q,o,e,h⟩:=hcell t (by rw [HV1.out.2];exact ht)
     cases e
     exact h
    have cx:=HCX.out wa HJ.out.2.2.2 j hjn
    rw [eu] at cx
    have kx:=cell_size cx
    have HNL:Hid (aL.length=nL):=hnL
    clear eu hnL
    go_upto_block 4 with fail
    generalize hW7:World.alloc _ _=W7
    have H7:Hid (W7.heap[wa.heap.size]?=some (.cells #[.string u,.int .i64 0,.int .i64 0] 61 (0,0))∧Below wa.heap.size wa W7):=by
     rw [← hW7]
     exact ⟨heap_alloc_new wa _,up_alloc wa _⟩
    clear hW7
    go_cut [8] from 63 to 134 (fun v8 wx=>v8 = .int .i64 ((kCnt (kindI u):Nat):Int)∧Hid (kindI u < 5)∧Hid (wx.heap[wa.heap.size]?=some (.cells #[.string u,.int .i64 0,.int .i64 0] 61 (0,0))∧Below wa.heap.size wa wx))
    case first=>
     obtain ⟨k0,k1,k2,k3,k4⟩:=kts u
     have hkl:=kind_le u
     obtain ⟨z,ez⟩:∃ z,kindI u=z:=⟨_,rfl⟩
     have HZ:Hid (kindI u=z):=ez
     rw [ez] at k0 k1 k2 k3 k4 hkl
     have HX7:Hid (W7.heap[w.heap.size]?=some (.cells #[.slice none 0 0,.slice none 0 0] 32 (0,0))∧Below w.heap.size w W7):=⟨(H7.out.2.block _ (heap_lt HJ.out.1)).trans HJ.out.1,bstep HJ.out.2.2.1 H7.out.2⟩
     clear ez
     rcases (show z=0∨z=1∨z=2∨z=3∨z=4∨z=5 by omega) with rfl|rfl|rfl|rfl|rfl|rfl
     ·simp only [decide_true,show (decide ((0:Nat)=0))=true from by decide,show (decide ((0:Nat)=1))=false from by decide,show (decide ((0:Nat)=2))=false from by decide,show (decide ((0:Nat)=3))=false from by decide,show (decide ((0:Nat)=4))=false from by decide] at k0 k1 k2 k3 k4
      go_wp2
      go_meet
      case rel=>exact ⟨by rw [HZ.out];rfl,by show _ < _;rw [HZ.out];decide,H7⟩
     ·simp only [decide_true,show (decide ((1:Nat)=0))=false from by decide,show (decide ((1:Nat)=1))=true from by decide,show (decide ((1:Nat)=2))=false from by decide,show (decide ((1:Nat)=3))=false from by decide,show (decide ((1:Nat)=4))=false from by decide] at k0 k1 k2 k3 k4
      go_wp2
      go_meet
      case rel=>exact ⟨by rw [HZ.out];rfl,by show _ < _;rw [HZ.out];decide,H7⟩
     ·simp only [decide_true,show (decide ((2:Nat)=0))=false from by decide,show (decide ((2:Nat)=1))=false from by decide,show (decide ((2:Nat)=2))=true from by decide,show (decide ((2:Nat)=3))=false from by decide,show (decide ((2:Nat)=4))=false from by decide] at k0 k1 k2 k3 k4
      go_wp2
      go_meet
      case rel=>exact ⟨by rw [HZ.out];rfl,by show _ < _;rw [HZ.out];decide,H7⟩
     ·simp only [decide_true,show (decide ((3:Nat)=0))=false from by decide,show (decide ((3:Nat)=1))=false from by decide,show (decide ((3:Nat)=2))=false from by decide,show (decide ((3:Nat)=3))=true from by decide,show (decide ((3:Nat)=4))=false from by decide] at k0 k1 k2 k3 k4
      go_wp2
      go_meet
      case rel=>exact ⟨by rw [HZ.out];rfl,by show _ < _;rw [HZ.out];decide,H7⟩
     ·simp only [decide_true,show (decide ((4:Nat)=0))=false from by decide,show (decide ((4:Nat)=1))=false from by decide,show (decide ((4:Nat)=2))=false from by decide,show (decide ((4:Nat)=3))=false from by decide,show (decide ((4:Nat)=4))=true from by decide] at k0 k1 k2 k3 k4
      go_wp2
      go_meet
      case rel=>exact ⟨by rw [HZ.out];rfl,by show _ < _;rw [HZ.out];decide,H7⟩
     ·simp only [decide_true,show (decide ((5:Nat)=0))=false from by decide,show (decide ((5:Nat)=1))=false from by decide,show (decide ((5:Nat)=2))=false from by decide,show (decide ((5:Nat)=3))=false from by decide,show (decide ((5:Nat)=4))=false from by decide] at k0 k1 k2 k3 k4
      have HE:Hid (pE s=7):=pE_none HSM.out (by
       rw [HWS.out.1,HPj.out,HDR.out,parL_bad (f:=(u :: ws.drop (j+1)).length) (by simp) (.inl HZ.out)]
       rfl)
      obtain ⟨⟨x0_,y0_⟩,⟨x1_,y1_⟩⟩:=box_2 HX7.out.1
      have kx_:=cell_size x0_
      go_wp2
      generalize hU:World.setCell _ _ _=U
      obtain ⟨u0,u1,hBU,_⟩:=two_set HX7.out.1 hU
      exact bodyPost_ret (v:=.tuple #[.agg #[.slice none 0 0,.slice none 0 0],.int .i64 7]) (by simp [results,Tryz.results6,go_sem,u0,u1]) rfl (PaR.bad HE.out (by decide) (hBU w _ (Nat.le_refl _) HX7.out.2))
    case rest=>
     obtain ⟨rfl,HK5,H8⟩:=hcut
     obtain ⟨kc,ekc⟩:∃ kc,kCnt (kindI u)=kc:=⟨_,rfl⟩
     have hkc:kc≤2:=by rw [← ekc];exact kCnt_le _
     have HKC:Hid (kCnt (kindI u)=kc∧kindI u < 5):=⟨ekc,HK5.out⟩
     rw [ekc]
     have hkc':(kc:Int)≤2:=by omega
     clear ekc HK5 H7
     go_wp2_with fail
     go_loopg [9] kc (fun gg v9 wr=>∃ (t:Nat) (vs:List Int),t≤kc∧gg=kc - t∧v9 = .int .i64 ((t+1:Nat):Int)∧Hid (vs.length=t∧j+1+t≤nv∧numsA (ws.drop (j+1)) kc=(vs++(numsA (ws.drop (j+1+t)) (kc - t)).1,(numsA (ws.drop (j+1+t)) (kc - t)).2))∧Hid (wr.heap[wa.heap.size]?=some (.cells #[.string u,.int .i64 (vs.getD 0 0),.int .i64 (vs.getD 1 0)] 61 (0,0))∧Below wa.heap.size wa wr))
     case atStart=>exact ⟨0,[],by omega,rfl,rfl,⟨rfl,by omega,by simp⟩,H8⟩
     case round=>
      obtain ⟨t,vs,ht,hgt,rfl,HV,HY⟩:=hrel
      obtain ⟨q,hq⟩:∃ q,t+1=q:=⟨_,rfl⟩
      rw [hq]
      have HQQ:Hid (t+1=q):=hq
      have HJq:Hid (wr.heap[w.heap.size]?=some (.cells #[.slice none 0 0,.slice none 0 0] 32 (0,0))∧wr.heap[w1.heap.size]?=some (.cells #[.slice pI nI cI,.slice pL nL cL] 32 (0,0))∧Below w.heap.size w wr∧Below w1.heap.size w1 wr):=⟨(HY.out.2.block _ (heap_lt HJ.out.1)).trans HJ.out.1,(HY.out.2.block _ (heap_lt HJ.out.2.1)).trans HJ.out.2.1,bstep HJ.out.2.2.1 HY.out.2,bstep HJ.out.2.2.2 HY.out.2⟩
      have htv:=HV.out.2.1
      by_cases htk:t < kc
      ·have ht1:(q:Int)≤(kc:Int):=by omega
       obtain ⟨m,hm⟩:∃ m,j+1+t=m:=⟨_,rfl⟩
       have HMM:Hid (j+1+t=m):=hm
       have HJT:Hid ((j:Int)+(q:Int)=(m:Int)):=by show _=_;omega
       have hjr:0≤(j:Int)+(q:Int)∧(j:Int)+(q:Int)≤20000:=by omega
       rw [hm] at htv HV
       clear hm hq
       by_cases hlen:m < nv
       case neg=>
        have hl':(nv:Int)≤(j:Int)+(q:Int):=by have:=HJT.out;omega
        have HE:Hid (pE s=7):=pE_none HSM.out (by
         rw [HWS.out.1,HPj.out,HDR.out,parL_bad (f:=(u :: ws.drop (j+1)).length) (by simp) (.inr (by
          rw [HKC.out.1,HV.out.2.2,List.drop_eq_nil_of_le (show ws.length≤m by rw [HV1.out.2];omega),numsA_end]
          have:=HV.out.1
          simp
          omega))]
         rfl)
        obtain ⟨⟨x0_,y0_⟩,⟨x1_,y1_⟩⟩:=box_2 HJq.out.1
        have kx_:=cell_size x0_
        go_upto_region 29 with fail
        clear hjr hl' ht1 hkc hkc' htv cx kx m0 m1 m1f km
        go_wp2
        generalize hU:World.setCell _ _ _=U
        obtain ⟨u0,u1,hBU,_⟩:=two_set HJq.out.1 hU
        exact bodyPost_ret (v:=.tuple #[.agg #[.slice none 0 0,.slice none 0 0],.int .i64 7]) (by simp [results,Tryz.results6,go_sem,u0,u1]) rfl (PaR.bad HE.out (by decide) (hBU w _ (Nat.le_refl _) HJq.out.2.2.1))
       have hl':(j:Int)+(q:Int) < (nv:Int):=by have:=HJT.out;omega
       have hix:∀ W,(Instr.indexAt 54 (.slice (some ⟨qv,ov,none⟩) nv cv) (.int .i64 ((j:Int)+(q:Int)))).run Tryz.prog W = .ok (.pointer (some ⟨qv,ov+m,none⟩)) W:=fun W=>by
        rw [HJT.out]
        have hm0:(m:Int) < (nv:Int):=by omega
        have u1:=Tryz.underlying54
        go_simp
       obtain ⟨y,ey⟩:∃ x,wdA ws m=x:=⟨_,rfl⟩
       have HDY:Hid (ws.drop m=y :: ws.drop (m+1)):=by show _=_;rw [drop_at ws m (by rw [HV1.out.2];exact hlen),ey]
       have cy:=HCX.out wr HJq.out.2.2.2 m hlen
       rw [ey] at cy
       have ky:=cell_size cy
       have cN:=rnumber_any y
       clear ey
       cases hnb:numB y with
       | none=>
        rw [hnb] at cN
        have HE:Hid (pE s=7):=pE_none HSM.out (by
         rw [HWS.out.1,HPj.out,HDR.out,parL_bad (f:=(u :: ws.drop (j+1)).length) (by simp) (.inr (by
          rw [HKC.out.1,HV.out.2.2,HDY.out,show kc - t=(kc - t - 1)+1 by omega,numsA_none hnb]
          have:=HV.out.1
          simp
          omega))]
         rfl)
        clear hnb
        go_wp2_with fail
        refine (cN _).mono ?_
        rintro e w3 ⟨rfl,rfl⟩
        clear cN
        obtain ⟨⟨x0_,y0_⟩,⟨x1_,y1_⟩⟩:=box_2 HJq.out.1
        have kx_:=cell_size x0_
        go_upto_region 29 with fail
        clear hjr hl' ht1 hkc hkc' htv cx kx m0 m1 m1f km
        go_wp2
        generalize hU:World.setCell _ _ _=U
        obtain ⟨u0,u1,hBU,_⟩:=two_set HJq.out.1 hU
        exact bodyPost_ret (v:=.tuple #[.agg #[.slice none 0 0,.slice none 0 0],.int .i64 7]) (by simp [results,Tryz.results6,go_sem,u0,u1]) rfl (PaR.bad HE.out (by decide) (hBU w _ (Nat.le_refl _) HJq.out.2.2.1))
       | some v=>
        rw [hnb] at cN
        have hv:=numB_rng hnb
        have HVN:Hid ((vs++[v]).length=t+1∧j+1+(t+1)≤nv∧numsA (ws.drop (j+1)) kc=((vs++[v])++(numsA (ws.drop (j+1+(t+1))) (kc - (t+1))).1,(numsA (ws.drop (j+1+(t+1))) (kc - (t+1))).2)):=by
         refine ⟨by have:=HV.out.1;simp;omega,by have:=HMM.out;omega,?_⟩
         rw [HV.out.2.2,HDY.out,show kc - t=(kc - (t+1))+1 by omega,numsA_some hnb,show j+1+(t+1)=m+1 by have:=HMM.out;omega]
         simp
        clear hnb
        go_wp2_with fail
        refine (cN _).mono ?_
        rintro e w3 ⟨rfl,rfl⟩
        have hbx:=box_3 HY.out.1
        obtain ⟨⟨f0,f0f⟩,⟨f1,f1f⟩,⟨f2,f2f⟩⟩:=hbx
        have kf:=cell_size f0
        rcases (show t=0∨t=1 by omega) with rfl|rfl
        ·have hq1:((q:Int)==1)=true:=by rw [← HQQ.out];rfl
         have hvs:vs = []:=List.eq_nil_of_length_eq_zero HV.out.1
         subst hvs
         go_upto_region 31 with fail
         clear hkc' htv cx kx m0 m1 m1f km ht1
         go_wp2_with fail
         refine (cN _).mono ?_
         rintro e w4 ⟨rfl,rfl⟩
         clear cN
         have HYN:Hid ((w4.setCell ⟨wa.heap.size,1,none⟩ (.int .i64 v)).heap[wa.heap.size]?=some (.cells #[.string u,.int .i64 (([]++[v]:List Int).getD 0 0),.int .i64 (([]++[v]:List Int).getD 1 0)] 61 (0,0))∧Below wa.heap.size wa (w4.setCell ⟨wa.heap.size,1,none⟩ (.int .i64 v))):=⟨by rw [heap_setat HY.out.1];rfl,HY.out.2.setCell (p:=⟨wa.heap.size,1,none⟩) (Nat.le_refl _) _⟩
         go_wp2
         go_roundg (kc - (0+1))
         case measure=>omega
         case rel=>exact ⟨0+1,[]++[v],by omega,rfl,by rw [← HQQ.out];first|rfl|simp,HVN,HYN⟩
        ·have hq1:((q:Int)==1)=false:=by rw [← HQQ.out];rfl
         obtain ⟨v0,rfl⟩:∃ v0,vs = [v0]:=by
          have:=HV.out.1
          match vs,this with
          | [v0],_=>exact ⟨v0,rfl⟩
         go_upto_region 32 with fail
         clear hkc' htv cx kx m0 m1 m1f km ht1
         go_wp2_with fail
         refine (cN _).mono ?_
         rintro e w4 ⟨rfl,rfl⟩
         clear cN
         have HYN:Hid ((w4.setCell ⟨wa.heap.size,2,none⟩ (.int .i64 v)).heap[wa.heap.size]?=some (.cells #[.string u,.int .i64 (([v0]++[v]:List Int).getD 0 0),.int .i64 (([v0]++[v]:List Int).getD 1 0)] 61 (0,0))∧Below wa.heap.size wa (w4.setCell ⟨wa.heap.size,2,none⟩ (.int .i64 v))):=⟨by rw [heap_setat HY.out.1];rfl,HY.out.2.setCell (p:=⟨wa.heap.size,2,none⟩) (Nat.le_refl _) _⟩
         go_wp2
         go_roundg (kc - (1+1))
         case measure=>omega
         case rel=>exact ⟨1+1,[v0]++[v],by omega,rfl,by rw [← HQQ.out];first|rfl|simp,HVN,HYN⟩
      ·obtain rfl:t=kc:=by omega
       obtain ⟨A,eA⟩:∃ x,vs.getD 0 0=x:=⟨_,rfl⟩
       obtain ⟨C,eC⟩:∃ x,vs.getD 1 0=x:=⟨_,rfl⟩
       have hnx:parW ws=(parL (ws.drop (j+1+t)).length (ws.drop (j+1+t))).map fun l=>(acc,(aL++[(u,A,C)])++l):=by
        have e:=HV.out.2.2
        rw [Nat.sub_self,numsA_zero] at e
        simp only [List.append_nil] at e
        rw [HPj.out,HDR.out,parL_map (l:=(vs,ws.drop (j+1+t))) (by simp) HKC.out.2 (by rw [HKC.out.1];exact e) (by rw [HKC.out.1];exact HV.out.1),eA,eC]
        cases parL (ws.drop (j+1+t)).length (ws.drop (j+1+t)) with
        | none=>rfl
        | some l=>simp
       have HNX:Hid (parW ws=(parL (ws.drop (j+1+t)).length (ws.drop (j+1+t))).map fun l=>(acc,(aL++[(u,A,C)])++l)):=hnx
       have HQT:Hid (j+1+t≤nv∧(aL++[(u,A,C)]).length≤j+1+t∧aL.length+1≤1073741825):=⟨htv,by have:=HLj.out;simp;omega,by have:=HLj.out;omega⟩
       have hYc:=HY.out.1
       rw [eA,eC] at hYc
       have hfl:=up_alloc wr (.cells #[.string u,.int .i64 A,.int .i64 C] 61)
       obtain ⟨⟨f0,_⟩,⟨f1,_⟩,⟨f2,_⟩⟩:=box_3 hYc
       have kf:=cell_size f0
       obtain ⟨⟨n0,_⟩,⟨n1,_⟩⟩:=box_2 HJq.out.2.1
       have kn:=cell_size n0
       have hO:=HRj.out
       rw [HNL.out] at hO
       have hB9:=bstep HY.out.2 hfl
       have H5:Hid ((wr.alloc (.cells #[.string u,.int .i64 A,.int .i64 C] 61)).ownsRow w1.heap.size 61 3 (.slice pL nL cL) nL (aL.flatMap lyC)):=owns_only (S:=[]) hO (Only.of hB9) (by simp)
       have H6:Hid ((wr.alloc (.cells #[.string u,.int .i64 A,.int .i64 C] 61)).heap[wr.heap.size]?=some (.cells [Value.string u,.int .i64 A,.int .i64 C].toArray 61 (0,0))):=heap_alloc_new wr _
       have H7:Hid (∀ y_∈[Value.string u,.int .i64 A,.int .i64 C],y_.oneCell'=true):=fun y hy=>by simp at hy;rcases hy with rfl|rfl|rfl <;> rfl
       have H8':Hid (w1.heap.size≤(wr.alloc (.cells #[.string u,.int .i64 A,.int .i64 C] 61)).heap.size∧nL+1≤1073741825):=⟨Nat.le_trans HJq.out.2.2.2.size hfl.size,by rw [← HNL.out];exact HQT.out.2.2⟩
       have HWA:Hid ((wr.alloc (.cells #[.string u,.int .i64 A,.int .i64 C] 61)).heap[w.heap.size]?=some (.cells #[.slice none 0 0,.slice none 0 0] 32 (0,0))∧(wr.alloc (.cells #[.string u,.int .i64 A,.int .i64 C] 61)).heap[w1.heap.size]?=some (.cells #[.slice pI nI cI,.slice pL nL cL] 32 (0,0))∧Below w1.heap.size w1 (wr.alloc (.cells #[.string u,.int .i64 A,.int .i64 C] 61))∧Below w.heap.size w w1∧OwnK .i64 3 (wr.alloc (.cells #[.string u,.int .i64 A,.int .i64 C] 61)) w1.heap.size (.slice pI nI cI) acc):=⟨(hfl.block _ (heap_lt HJq.out.1)).trans HJq.out.1,(hfl.block _ (heap_lt HJq.out.2.1)).trans HJq.out.2.1,bstep HJq.out.2.2.2 hfl,HX1.out.2,HOj.out.up hB9⟩
       have HFL:Hid ((aL++[(u,A,C)]).flatMap lyC=aL.flatMap lyC++[Value.string u,.int .i64 A,.int .i64 C]∧(aL++[(u,A,C)]).length=nL+1):=⟨by rw [List.flatMap_append];rfl,by rw [List.length_append,HNL.out];rfl⟩
       have hqq:(t:Int) < (q:Int):=by have:=HQQ.out;omega
       clear hnx hYc hfl hO hB9 eA eC htv hq htk cx kx m0 m1 m1f km HV HDR HCX HKC
       go_wp2_with (at_builtin;refine wpList_appG layT2 (by decide) (by decide) rfl (.tmp 126) (.tmp 128) rfl w1.heap.size _ nL (aL.flatMap lyC) rfl H5.out _ [Value.string u,.int .i64 A,.int .i64 C] rfl H6.out rfl H7.out H8'.out.2 H8'.out.1 ?_;intro v9 w9 O9 Y9 B9;have b9:=Y9.out.keep HWA.out.2.1 (by decide);have B9':=hid2 (B9.out w1 HWA.out.2.2.1) (B9.out w1 HWA.out.2.2.1);obtain ⟨⟨r0,_⟩,⟨r1,r1f⟩⟩:=box_2 b9;have HB9:=hid2 b9 b9;clear b9;obtain ⟨p9,c9,rfl⟩:∃ p9 c9,v9 = .slice p9 (nL+1) c9:=ownsRow_form O9.out)
       have hs1:w.heap.size≤w1.heap.size:=Nat.le_of_lt HSZ1.out
       have HF1:Hid ((w9.setCell ⟨w1.heap.size,1,none⟩ (.slice p9 (nL+1) c9)).heap[w.heap.size]?=some (.cells #[.slice none 0 0,.slice none 0 0] 32 (0,0))∧(w9.setCell ⟨w1.heap.size,1,none⟩ (.slice p9 (nL+1) c9)).heap[w1.heap.size]?=some (.cells #[.slice pI nI cI,.slice p9 (nL+1) c9] 32 (0,0))∧Below w.heap.size w (w9.setCell ⟨w1.heap.size,1,none⟩ (.slice p9 (nL+1) c9))∧Below w1.heap.size w1 (w9.setCell ⟨w1.heap.size,1,none⟩ (.slice p9 (nL+1) c9))):=by
        refine ⟨?_,?_,(HWA.out.2.2.2.1.trans (B9'.out.1.mono hs1)).setCell (p:=⟨w1.heap.size,1,none⟩) hs1 _,B9'.out.1.setCell (p:=⟨w1.heap.size,1,none⟩) (Nat.le_refl _) _⟩
        ·rw [heap_set _ _ _ _ _ hw01]
         exact Y9.out.keep HWA.out.1 (by decide)
        ·rw [heap_setat HB9.out.1]
         rfl
       have HF2:Hid (OwnK .i64 3 (w9.setCell ⟨w1.heap.size,1,none⟩ (.slice p9 (nL+1) c9)) w1.heap.size (.slice pI nI cI) acc):=(HWA.out.2.2.2.2.only Y9.out (by decide)).only (Only.set (o:=1) (x:=.slice p9 (nL+1) c9) HB9.out.1 (S:=[32]) (by simp)) (by decide)
       have HF3:Hid ((w9.setCell ⟨w1.heap.size,1,none⟩ (.slice p9 (nL+1) c9)).ownsRow w1.heap.size 61 3 (.slice p9 (nL+1) c9) (aL++[(u,A,C)]).length ((aL++[(u,A,C)]).flatMap lyC)):=by
        have h9:=owns_only (S:=[32]) O9.out (Only.set (o:=1) (x:=.slice p9 (nL+1) c9) HB9.out.1 (by simp)) (by decide)
        show World.ownsRow _ _ _ _ _ _ _
        rw [HFL.out.1,HFL.out.2]
        exact h9
       have hji:(j:Int)+(t:Int)+1=((j+1+t:Nat):Int):=by omega
       rw [hji]
       have HQT1:=HQT.out.1
       clear hji
       go_roundg (nv - (j+1+t))
       case measure=>omega
       case rel=>exact ⟨j+1+t,aL++[(u,A,C)],.slice p9 (nL+1) c9,HQT1,rfl,rfl,HNX,HQT.out.2.1,HF1,HF2,HF3⟩
   ·obtain rfl:j=nv:=by omega
    obtain ⟨E,eE⟩:∃ E,nE acc aL=E:=⟨_,rfl⟩
    have hp:parW (wordsB s)=some (acc,aL):=by
     rw [HWS.out.1,HPj.out,List.drop_eq_nil_of_le (show ws.length≤j by rw [HV1.out.2];exact Nat.le_refl _)]
     simp [parL]
    obtain ⟨hE1,hX1⟩:=pE_some HSM.out hp
    dsimp only at hE1 hX1
    rw [eE] at hE1 hX1
    have HEX:Hid (pE s=E∧(E=0→pX s=(acc,aL))):=⟨hE1,hX1⟩
    have hR:=(show LyE 61 wr w1.heap.size (.slice pL nL cL) aL from HRj.out).rd
    obtain ⟨_,_,e9,hR⟩:=hR
    rw [hnL] at e9 hR
    cases e9
    have cS:=rshapes_any pI pL nI cI nL cL acc aL (by have:=HLj.out;omega) wr HOj.out.nums hR
    unfold ShR at cS
    rw [eE] at cS
    have HNL:Hid (aL.length=nL):=hnL
    clear hE1 hX1 hp eE hnL
    go_wp2_with fail
    refine cS.mono ?_
    rintro e w3 ⟨⟨v3,rfl,_⟩,hB⟩
    have HJ3:Hid (w3.heap[w.heap.size]?=some (.cells #[.slice none 0 0,.slice none 0 0] 32 (0,0))∧w3.heap[w1.heap.size]?=some (.cells #[.slice pI nI cI,.slice pL nL cL] 32 (0,0))∧Below w.heap.size w w3∧OwnK .i64 3 w3 w1.heap.size (.slice pI nI cI) acc∧LyE 61 w3 w1.heap.size (.slice pL nL cL) aL):=⟨(hB.block _ (heap_lt HJ.out.1)).trans HJ.out.1,(hB.block _ (heap_lt HJ.out.2.1)).trans HJ.out.2.1,bstep HJ.out.2.2.1 hB,HOj.out.up hB,LyE.up HRj.out hB⟩
    clear cS hR hB m0 m1 m1f km
    obtain ⟨⟨m0,_⟩,⟨m1,m1f⟩⟩:=box_2 HJ3.out.2.1
    have km:=cell_size m0
    by_cases hE0:E=0
    ·have he:(E != 0)=false:=by rw [hE0];rfl
     have HXE:Hid (pX s=(acc,aL)∧pE s=0):=⟨HEX.out.2 hE0,by rw [HEX.out.1,hE0]⟩
     clear hE0
     obtain ⟨⟨x0_,y0_⟩,⟨x1_,y1_⟩⟩:=box_2 HJ3.out.1
     have kx_:=cell_size x0_
     go_wp2
     generalize hU:World.setCell _ _ _=U
     obtain ⟨u0,u1,hBU,hOU⟩:=two_set HJ3.out.1 hU
     refine bodyPost_ret (v:=.tuple #[.agg #[.slice pI nI cI,.slice pL nL cL],.int .i64 0]) (by simp [results,Tryz.results6,go_sem,u0,u1]) rfl ?_
     refine ⟨⟨pI,nI,cI,pL,nL,cL,by rw [HXE.out.2],?_,?_⟩,hBU w _ (Nat.le_refl _) HJ3.out.2.2.1⟩
     ·rw [HXE.out.1]
      exact (HJ3.out.2.2.2.1.only hOU (by decide)).nums
     ·rw [HXE.out.1]
      have h:=(show LyE 61 U w1.heap.size (.slice pL nL cL) aL from owns_only HJ3.out.2.2.2.2 hOU (by decide)).rd
      obtain ⟨_,_,e8,h⟩:=h
      rw [HNL.out] at e8 h
      cases e8
      exact h
    ·have he:(E != 0)=true:=by simpa using hE0
     have HE:Hid (pE s=E∧E≠0):=⟨HEX.out.1,hE0⟩
     clear hE0
     obtain ⟨⟨x0_,y0_⟩,⟨x1_,y1_⟩⟩:=box_2 HJ3.out.1
     have kx_:=cell_size x0_
     go_wp2
     generalize hU:World.setCell _ _ _=U
     obtain ⟨u0,u1,hBU,_⟩:=two_set HJ3.out.1 hU
     exact bodyPost_ret (v:=.tuple #[.agg #[.slice none 0 0,.slice none 0 0],.int .i64 E]) (by simp [results,Tryz.results6,go_sem,u0,u1]) rfl (PaR.bad HE.out.1 HE.out.2 (hBU w _ (Nat.le_refl _) HJ3.out.2.2.1))
end Go.Proofs.YtihjnbbhpojnpaaGreatDoor.Wd
