/- The reference's Sum. -/
import Derived.Test.YtlhpmjcdkpfjdaaGreatDoorY26
import Derived.Test.YtlhpmjcdkpfjdaaGreatDoorY15
import Derived.Test.YtlhpmjcdkpfjdaaGreatDoorY29
set_option linter.unusedVariables false
set_option linter.unusedSimpArgs false
set_option maxHeartbeats 16000000
set_option maxRecDepth 16000
namespace Go.Proofs.YtlhpmjcdkpfjdaaGreatDoor.Wd
open Go.RowKit Fx
/-- A row of one's own, told. -/
def OwnX (B:Nat) (l:List Int) (v:Value) (W:World):Prop:=OwnK .i64 3 W B v l
theorem itl_take (l:List Nat) (s:Nat):(itl l).take s=itl (l.take s):=by unfold itl;rw [List.map_take]
theorem itl_drop (l:List Nat) (s:Nat):(itl l).drop s=itl (l.drop s):=by unfold itl;rw [List.map_drop]
theorem itl_append (a b:List Nat):itl (a++b)=itl a++itl b:=by unfold itl;rw [List.map_append]
/-- What the cuts of a row of a shape hold. -/
theorem cut_lo {W:World} {p:Option Addr} {n c s:Nat} {l:List Nat} (h:s≤n) (hn:n≤c) (hb:Nums .i64 W (.slice p n c) (itl l)) (hl:l.length=n):Nums .i64 W (sliced p 0 s c 1) (itl (l.take s)):=by
 have:=cut_nums (k:=.i64) (W:=W) (p:=p) (i:=0) (j:=s) (by omega) h (by rw [itl_len];exact hl) hn hb
 rw [List.drop_zero,Nat.sub_zero,itl_take] at this
 exact this
theorem cut_hi {W:World} {p:Option Addr} {n c s:Nat} {l:List Nat} (h:s≤n) (hn:n≤c) (hb:Nums .i64 W (.slice p n c) (itl l)) (hl:l.length=n):Nums .i64 W (sliced p s n c 1) (itl (l.drop s)):=by
 have:=cut_nums (k:=.i64) (W:=W) (p:=p) (i:=s) (j:=n) h (Nat.le_refl _) (by rw [itl_len];exact hl) hn hb
 rw [itl_drop,itl_take,List.take_of_length_le (by rw [List.length_drop];omega)] at this
 exact this
theorem rsum_any (p p2:Option Addr) (n c n2 c2:Nat) (d x:List Int) (side:Int) (hr:InR side) (hd:RI d) (hx:RI x) (hn10:n≤10) (hnc:n≤c) (w:World) (h1:Nums .i64 w (.slice p n c) d) (h2:Nums .i64 w (.slice p2 n2 c2) x):
  Calls Tryz.prog 92 #[.agg #[.slice p n c,.slice p2 n2 c2],.int .i64 side] w fun e w'=>∃ v',e = .returned (.tuple #[v',.int .i64 (smE d x side)])∧TRes w' w.heap.size v' (smD d x side) (smV d x side)∧Below w.heap.size w w':=by
 have cA:=fun W (hW:Below w.heap.size w W)=>ris_any _ _ d x hd W (h1.up hW) (h2.up hW)
 obtain ⟨_,_,_,e4,HD⟩:=h1.lst
 cases e4
 obtain ⟨_,_,_,e4,HX⟩:=h2.lst
 cases e4
 have hn10':(n:Int)≤10:=by omega
 have hr':-9223372036854775808≤side∧side≤9223372036854775807:=hr
 haveI:Nonempty World:=⟨w⟩
 by_cases hp:isP d x
 ·rw [decide_eq_true hp] at cA
  by_cases hs0:0≤side
  ·by_cases hs1:side < (n:Int)
   ·obtain ⟨a,ga,rfl⟩:=good_itl hp.1
    obtain ⟨s,rfl⟩:=Int.eq_ofNat_of_zero_le hs0
    have hal:a.length=n:=by have:=HD.out.1;rw [itl_len] at this;exact this
    have hsa:s < a.length:=by omega
    have hxa:x.length=prodN a:=by have:=hp.2;rw [ntl_itl] at this;exact this
    have hsm:smP (itl a) x (s:Int):=⟨hp,hs0,by rw [itl_len,hal];exact hs1⟩
    have e1:smE (itl a) x (s:Int)=0:=if_pos hsm
    have e2:smD (itl a) x (s:Int)=itl (lessN a s):=by unfold smD;rw [if_pos hsm,ntl_itl];rfl
    have e3:smV (itl a) x (s:Int)=sumV a s x:=by unfold smV;rw [if_pos hsm,ntl_itl];rfl
    rw [e1,e2,e3]
    have gl:=good_less ga s hsa
    obtain ⟨C,eC⟩:∃ C,a.getD s 0=C:=⟨_,rfl⟩
    obtain ⟨N,eN⟩:∃ N,prodN (lessN a s)=N:=⟨_,rfl⟩
    obtain ⟨V,eV⟩:∃ V,sumV a s x=V:=⟨_,rfl⟩
    have hC1:1≤C:=by rw [← eC];exact side_one ga s hsa
    have hCp:C≤prodN a:=by rw [← eC,getD_lt a s 0 hsa];exact mem_le_prodN ga.2.1 _ (List.getElem_mem hsa)
    have hN1:1≤N:=by rw [← eN];exact gl.pos
    have hN2:N≤4096:=by rw [← eN];exact gl.2.2
    have hlen:(lessN a s).length+1=n:=by simp only [lessN,List.length_append,List.length_take,List.length_drop];omega
    have HS:Hid (goodN a∧s < a.length∧a.length=n∧x.length=prodN a∧prodN a≤4096∧goodN (lessN a s)∧a.getD s 0=C∧prodN (lessN a s)=N∧sumV a s x=V∧V.length=N∧(lessN a s).length+1=n∧RI x∧C≤4096∧RI (itl a)):=⟨ga,hsa,hal,hxa,ga.2.2,gl,eC,eN,eV,by rw [← eV,sumV_len,eN],hlen,hx,Nat.le_trans hCp ga.2.2,hd⟩
    rw [eV]
    have hn2:n2=prodN a:=by rw [← hxa];exact HX.out.1.symm
    have hn2':(n2:Int)≤4096:=by have:=ga.2.2;omega
    obtain ⟨q,o,rfl,hc0⟩:=HD.out.2 s (by omega)
    rw [itl_getD,eC] at hc0
    have hC':1≤(C:Int)∧(C:Int)≤4096:=by have:=ga.2.2;omega
    have hN':1≤(N:Int)∧(N:Int)≤4096:=by omega
    obtain ⟨s1,es1⟩:∃ s1,s+1=s1:=⟨_,rfl⟩
    have es1':(s:Int)+1=(s1:Int):=by omega
    obtain ⟨ZA,eZA⟩:=sliced_is (some ⟨q,o,none⟩) 0 s c
    obtain ⟨ZB,eZB⟩:=sliced_is (some ⟨q,o,none⟩) s1 n c
    rw [Nat.sub_zero,Nat.sub_zero] at eZA
    have HKA:Hid ((∀ W,Sem.run Tryz.prog (Instr.slice 28 (.slice (some ⟨q,o,none⟩) n c) none (some (.int .i64 (s:Int))) none) W = .ok (.slice ZA s c) W)∧(∀ W,Sem.run Tryz.prog (Instr.slice 28 (.slice (some ⟨q,o,none⟩) n c) (some (.int .i64 (s1:Int))) none none) W = .ok (.slice ZB (n - s1) (c - s1)) W)):=⟨fun W=>by rw [cutI_h _ n c s (by omega) W,eZA],fun W=>by rw [cutI_l _ n c s1 (by omega) W,eZB]⟩
    have HKN:Hid (∀ W,Below w.heap.size w W→Nums .i64 W (.slice ZA s c) (itl (a.take s))∧Nums .i64 W (.slice ZB (n - s1) (c - s1)) (itl (a.drop (s+1)))):=fun W hW=>by
     refine ⟨?_,?_⟩
     ·rw [← eZA]
      exact cut_lo (by omega) hnc (h1.up hW) hal
     ·rw [← eZB,es1]
      exact cut_hi (by omega) hnc (h1.up hW) hal
    have HNw:Hid (Nums .i64 w (.slice (some ⟨q,o,none⟩) n c) (itl a)):=h1
    have hsn:(s:Int) < (n:Int):=by omega
    clear hp hs0 hs1 hal hsa hxa hsm e1 e2 e3 eC eN eV hC1 hCp hN1 hlen gl ga hx hd h1 h2 eZA eZB hn2 hr'
    go_enter Tryz.func92,Tryz.ntmps92
    go_wp2_with fail
    generalize hW0:World.alloc _ _=W0
    have HB0:=hidB (w:=w) hW0 (by go_grown)
    have XA:Hid (Cel W0 w.heap.size (.slice (some ⟨q,o,none⟩) n c) (.slice p2 n2 c2)):=celW hW0 (by simp [go_sem])
    have XR:Hid (Cel W0 (w.heap.size+1) (.slice none 0 0) (.slice none 0 0)):=celW hW0 (by simp [go_sem])
    clear hW0
    refine (cA W0 HB0.out).mono ?_
    rintro e w1 ⟨rfl,hB1⟩
    have HB1:=hid2 (bstep HB0.out hB1) hB1
    clear hB1 cA
    obtain ⟨a0,a1,_,_⟩:=XA.out.up HB1.out.2
    have a9:=cell_lt a0
    go_wp2_with fail
    refine rel [⟨0,31,LitX 3 w1.heap.size []⟩,⟨5,36,RowX 3 w1.heap.size (itl (a.take s))⟩] 11 102 (by kernel_rfl) rfl rfl (by kernel_rfl) (by rfl) ?_ ?_
    ·intro e he v W W' h hb
     simp only [List.mem_cons,List.not_mem_nil,or_false] at he
     rcases he with rfl|rfl
     ·exact LitX.up h hb
     ·exact RowX.up h hb
    apply Exists.intro
    refine ⟨fun x=>?_,?_,?_⟩
    ·simp only [List.take_succ_cons,List.take_zero]
     refine relTold rfl rfl ?_ ?_
     ·intro F hF hf d
      have hFc:=hF.cell
      have hFf:=hF.frozen
      simp [yieldsR,yieldsUpon,go_sem]
      exact ⟨litX_new _ _ [] (F d) (hF.below d).size,up_alloc _ _⟩
     iterate 3
      (try simp only [putL])
      refine relQuiet rfl rfl ?_
      apply Exists.intro
      refine ⟨fun F hF hf K hK=>?_,?_⟩
      ·have hFc:=hF.cell
       have hFf:=hF.frozen
       go_big_quiet_op
       exact hK
     (try simp only [putL])
     refine relQuiet rfl rfl ?_
     apply Exists.intro
     refine ⟨fun F hF hf K hK=>?_,?_⟩
     ·have hFc:=hF.cell
      have hFf:=hF.frozen
      have kA:=HKA.out.1
      go_big_quiet_op
      exact hK
     (try simp only [putL])
     refine relTold rfl rfl ?_ ?_
     ·intro F hF hf d
      have hFc:=hF.cell
      have hFf:=hF.frozen
      have h9:=hf _ List.mem_cons_self (by rfl) d
      obtain ⟨v8,w8,hr8,ho8,hb8⟩:=appX numT (by decide) 28 (F d) w1.heap.size _ h9 (hF.below d).size _ _ (HKN.out (F d) (bstep HB1.out.1 (hF.below d))).1 (by rw [itl_len,List.length_take];omega)
      simp [yieldsR,yieldsUpon,execOp,resolve,invoke,builtin,Act.eval,hr8,Result.andThen]
      exact ⟨ho8,hb8⟩
     iterate 4
      (try simp only [putL])
      refine relQuiet rfl rfl ?_
      apply Exists.intro
      refine ⟨fun F hF hf K hK=>?_,?_⟩
      ·have hFc:=hF.cell
       have hFf:=hF.frozen
       go_big_quiet_op
       exact hK
     (try simp only [putL])
     refine relQuiet rfl rfl ?_
     apply Exists.intro
     refine ⟨fun F hF hf K hK=>?_,?_⟩
     ·have hFc:=hF.cell
      have hFf:=hF.frozen
      have kB:=HKA.out.2
      go_big_quiet_op
      exact hK
     (try simp only [putL])
     refine relEnd ?_
     exact rfl
    ·intro x
     simp only [putsK,List.foldl_cons,List.foldl_nil,Act.put,List.setIfInBounds_toArray,List.set_cons_zero,List.set_cons_succ]
    intro w2 xs hB2 hf
    simp only [List.drop_succ_cons,List.drop_zero]
    have h5:=hf _ (List.mem_cons_of_mem _ List.mem_cons_self)
    obtain ⟨x0,e0⟩:∃ q,xs 0=q:=⟨_,rfl⟩
    obtain ⟨x5,e5⟩:∃ q,xs 5=q:=⟨_,rfl⟩
    simp only [e5] at h5
    simp only [e0,e5]
    have H5o:Hid (OwnK .i64 3 w2 w1.heap.size x5 (itl (a.take s))):=h5.1
    have H5n:=HKN.out w2 (bstep HB1.out.1 hB2)
    have H5N:Hid (Nums .i64 w2 (.slice ZB (n - s1) (c - s1)) (itl (a.drop (s+1)))):=H5n.2
    have H5l:Hid ((itl (a.take s)).length+(itl (a.drop (s+1))).length≤1073741824):=by show _≤_;rw [itl_len,itl_len,List.length_take,List.length_drop];have:=HS.out.2.2.1;omega
    have HB2:Hid (Below w1.heap.size w1 w2):=hB2
    clear hf h5 H5n hB2 e0 e5 a0 a1 a9
    go_wp2_with (at_builtin;refine wpList_appendK numT (by decide) rfl (.tmp 36) (.tmp 41) rfl w1.heap.size _ _ rfl H5o.out _ _ rfl H5N.out H5l.out HB2.out.size w1 HB2.out ?_;intro v6 w3 H6 B6)
    have HO6:Hid (OwnK .i64 3 w3 w1.heap.size v6 (itl (lessN a s))):=by
     show OwnK _ _ _ _ _ _
     unfold lessN
     rw [itl_append]
     exact H6.out
    have HB3:=hid2 (bstep HB1.out.1 B6) (bstep HB1.out.2 B6)
    clear H6 B6 H5o H5N H5l HB2
    have cN:=rnew_any v6 (itl (lessN a s)) (RI_itl HS.out.2.2.2.2.2.1.le) (by rw [ntl_itl];exact HS.out.2.2.2.2.2.1) 0 w3 HO6.out.nums
    rw [ntl_itl,HS.out.2.2.2.2.2.2.2.1] at cN
    refine cN.mono ?_
    rintro e w8 ⟨v8,rfl,⟨s8,g,cg,rfl,hs8,ht8,hOff,hgB⟩,hB8⟩
    obtain ⟨p8,n8,c8,rfl,_⟩:=hs8.nums.lst
    clear cN
    go_wp2_with fail
    generalize hW9:World.alloc _ _=W9
    have B9:Below w8.heap.size w8 W9:=by rw [← hW9];exact up_alloc w8 _
    have XT:Hid (Cel W9 w8.heap.size (.slice p8 n8 c8) (.slice (some ⟨g,0,none⟩) N cg)):=by show Cel _ _ _ _;unfold Cel;rw [← hW9];simp [go_sem]
    have HB9:Hid (Below w.heap.size w W9∧Below W0.heap.size W0 W9):=⟨bstep HB3.out.1 (bstep hB8 B9),bstep HB3.out.2 (bstep hB8 B9)⟩
    have HD9:Hid (OwnK .i64 3 W9 w3.heap.size (.slice p8 n8 c8) (itl (lessN a s))∧Off g (.slice p8 n8 c8)):=⟨hs8.up B9,hOff⟩
    have HO9:Hid (OwnK .i64 33 W9 g (.slice (some ⟨g,0,none⟩) N cg) (rowF V 0)):=by
     show OwnK _ _ _ _ _ _
     rw [rowF_zero,HS.out.2.2.2.2.2.2.2.2.2.1]
     exact (ht8.up B9).base
    have HV6:Hid (OwnK .i64 3 W9 w1.heap.size v6 (itl (lessN a s))∧Off g v6):=⟨HO6.out.up (bstep hB8 B9),HO6.out.off_new hgB⟩
    have hz:=cell_lt XR.out.1
    have hgl:=ht8.size
    have Hg:Hid (W0.heap.size≤g∧w.heap.size+1 < W0.heap.size∧g < w8.heap.size∧W0.heap.size≤w3.heap.size):=⟨Nat.le_trans HB3.out.2.size hgB,hz,hgl,HB3.out.2.size⟩
    obtain ⟨b8,hb8⟩:∃ b8,w8.heap.size=b8:=⟨_,rfl⟩
    rw [hb8] at XT Hg ⊢
    clear hW9 B9 hz hgl hs8 ht8 hB8 hgB hOff HB3 hb8 HO6
    go_loopg [8] N (fun gg i wr=>∃ (I:Nat),I≤N∧gg=N - I∧i = .int .i64 (I:Int)∧Hid (OwnK .i64 33 wr g (.slice (some ⟨g,0,none⟩) N cg) (rowF V I))∧Hid (Below w.heap.size w wr∧Stay g W9 wr))
    case atStart=>exact ⟨0,by omega,by omega,by first|rfl|simp,HO9,HB9.out.1,Stay.refl _ _⟩
    case round=>
     obtain ⟨I,hI,hgI,rfl,HRI,hBI⟩:=hrel
     obtain ⟨R1,hR1⟩:∃ R1:World,R1=wr:=⟨_,rfl⟩
     subst hR1
     have xT:Cel R1 b8 (.slice p8 n8 c8) (.slice (some ⟨g,0,none⟩) N cg):=XT.out.stay hBI.out.2 (by have:=Hg.out;omega)
     obtain ⟨t0,t1,_,_⟩:=xT
     have t9:=cell_lt t0
     by_cases hIn:I < N
     ·have hI':(I:Int) < (N:Int):=by omega
      have hIp:I < prodN (lessN a s):=by rw [HS.out.2.2.2.2.2.2.2.1];exact hIn
      have cP:=rplace_any v6 (itl (lessN a s)) (RI_itl HS.out.2.2.2.2.2.1.le) (I:Int) R1 (HV6.out.1.nums.stay hBI.out.2 HV6.out.2)
      have eP:placeI (itl (lessN a s)) (I:Int)=itl (placeN (lessN a s) I):=by
       unfold placeI
       rw [ntl_itl,sizeN_good HS.out.2.2.2.2.2.1,if_pos ⟨by omega,by omega⟩,Int.toNat_natCast]
      rw [eP,ntl_itl,sizeN_good HS.out.2.2.2.2.2.1] at cP
      obtain ⟨P,eP2⟩:∃ P,placeN (lessN a s) I=P:=⟨_,rfl⟩
      rw [eP2] at cP
      have HP:Hid (placeN (lessN a s) I=P∧P.length+1=n∧I < prodN (lessN a s)):=⟨eP2,by rw [← eP2,placeN_len];exact HS.out.2.2.2.2.2.2.2.2.2.2.1,hIp⟩
      clear eP eP2 hIp
      go_wp2_with fail
      refine cP.mono ?_
      rintro e R2 ⟨vp,rfl,hP7,hB7⟩
      obtain ⟨pp,np,cp,rfl,HL7⟩:=hP7.nums.lst
      have hnp:np+1=n:=by rw [← HL7.out.1,itl_len];exact HP.out.2.1
      have HP7:Hid (OwnK .i64 3 R2 R1.heap.size (.slice pp np cp) (itl P)):=hP7
      have HB7:Hid (Below w.heap.size w R2∧Stay g W9 R2∧Below R1.heap.size R1 R2):=⟨bstep hBI.out.1 hB7,hBI.out.2.up hB7,hB7⟩
      obtain ⟨YA,eYA⟩:=sliced_is pp 0 s cp
      obtain ⟨YB,eYB⟩:=sliced_is pp s np cp
      rw [Nat.sub_zero,Nat.sub_zero] at eYA
      have hcp:=hP7.cap
      have HKP:Hid ((∀ W,Sem.run Tryz.prog (Instr.slice 28 (.slice pp np cp) none (some (.int .i64 (s:Int))) none) W = .ok (.slice YA s cp) W)∧(∀ W,Sem.run Tryz.prog (Instr.slice 28 (.slice pp np cp) (some (.int .i64 (s:Int))) none none) W = .ok (.slice YB (np - s) (cp - s)) W)):=⟨fun W=>by rw [cutI_h _ np cp s (by omega) W,eYA],fun W=>by rw [cutI_l _ np cp s (by omega) W,eYB]⟩
      have HKQ:Hid (∀ W,Below R2.heap.size R2 W→Nums .i64 W (.slice YA s cp) (itl (P.take s))∧Nums .i64 W (.slice YB (np - s) (cp - s)) (itl (P.drop s))):=fun W hW=>by
       have hl:P.length=np:=by have:=HP.out.2.1;omega
       refine ⟨?_,?_⟩
       ·rw [← eYA]
        exact cut_lo (by omega) hP7.cap (hP7.up hW).nums hl
       ·rw [← eYB]
        exact cut_hi (by omega) hP7.cap (hP7.up hW).nums hl
      clear cP hP7 hB7 HL7 eYA eYB t0 t1 t9 hcp
      go_wp2_with fail
      have L20:Hid (LiesS (R2.alloc (.cells #[.bool false,.int .u64 0,.int .u64 0,.int .u64 0,.int .u64 0] 151)) R2.heap.size (sumI (fun k=>x.getD ((I / prodN (a.drop (s+1))*C+k)*prodN (a.drop (s+1))+I % prodN (a.drop (s+1))) 0) 0)):=liesS_new R2 _
      go_loopg [12] C (fun gg i wr=>∃ (k:Nat),k≤C∧gg=C - k∧i = .int .i64 (k:Int)∧Hid (LiesS wr R2.heap.size (sumI (fun k=>x.getD ((I / prodN (a.drop (s+1))*C+k)*prodN (a.drop (s+1))+I % prodN (a.drop (s+1))) 0) k))∧Hid (Below R2.heap.size R2 wr))
      case atStart=>exact ⟨0,by omega,by omega,by first|rfl|simp,L20,up_alloc R2 _⟩
      case round=>
       obtain ⟨k,hk,hgk,rfl,L0,hBk⟩:=hrel
       obtain ⟨R3,hR3⟩:∃ R3:World,R3=wr:=⟨_,rfl⟩
       subst hR3
       have xA:Cel R3 w.heap.size (.slice (some ⟨q,o,none⟩) n c) (.slice p2 n2 c2):=((XA.out.up HB9.out.2).stay HB7.out.2.1 (by have:=Hg.out;omega)).up hBk.out
       have hBw:Below w.heap.size w R3:=bstep HB7.out.1 hBk.out
       have ua:=cell_low hc0 hBw
       have ua9:=cell_lt ua
       obtain ⟨a0,a1,_,_⟩:=xA
       have a9:=cell_lt a0
       by_cases hkn:k < C
       ·have hk':(k:Int) < (C:Int):=by omega
        have XAk:Hid (Cel R3 w.heap.size (.slice (some ⟨q,o,none⟩) n c) (.slice p2 n2 c2)):=⟨a0,a1,by assumption,by assumption⟩
        have HLn:Hid ((itl (P.take s)).length=s):=by show _=_;rw [itl_len,List.length_take];have:=HP.out.2.1;omega
        go_wp2_with fail
        clear a0 a1 a9 ua ua9 hBw
        refine from_region (by kernel_rfl) ?_
        refine seg (fun _ W=>Below R3.heap.size R3 W) (Tq 3 s R3.heap.size) 7 [⟨0,68,LitX 3 R3.heap.size []⟩,⟨4,72,RowX 3 R3.heap.size (itl (P.take s))⟩,⟨6,74,LitX 3 R3.heap.size [(k:Int)]⟩,⟨7,75,OwnX R3.heap.size (itl (P.take s)++[(k:Int)])⟩] 0 11 102 rfl rfl (by kernel_rfl) (by rfl) ?_ ?_ ?_ ?_ ?_ ?_
        ·exact fun b W W' h hb=>bstep h hb
        ·exact ⟨rfl,rfl,rfl,Nat.le_refl _,fun _ _=>rfl⟩
        ·exact .inl ⟨_,(List.mem_cons_of_mem _ (List.mem_cons_of_mem _ (List.mem_cons_of_mem _ List.mem_cons_self))),rfl⟩
        ·intro e he v W W' h hb
         simp only [List.mem_cons,List.not_mem_nil,or_false] at he
         rcases he with rfl|rfl|rfl|rfl
         ·exact LitX.up h hb
         ·exact RowX.up h hb
         ·exact LitX.up h hb
         ·exact OwnK.up h hb
        ·intro e he hne v W W' h hC hT
         simp only [List.mem_cons,List.not_mem_nil,or_false] at he
         rcases he with rfl|rfl|rfl|rfl
         ·exact LitX.tq h (by simp) hT
         ·exact RowX.tq h HLn.out hT
         ·exact LitX.tq h (by simp) hT
         ·exact absurd rfl hne
        apply Exists.intro
        refine ⟨fun x=>?_,?_,?_⟩
        ·simp only [List.drop_succ_cons,List.drop_zero,List.take_succ_cons,List.take_zero]
         refine segTold rfl (by decide) rfl ?_ ?_
         ·intro b F hF hf d
          have hFc:=hF.cls
          simp [yieldsR,yieldsUpon,go_sem]
          exact ⟨litX_new _ _ [] (F d) (hFc d).size,up_alloc _ _⟩
         iterate 2
          (try simp only [putL])
          refine segQuiet rfl rfl ?_
          apply Exists.intro
          refine ⟨fun b F hF hf K hK=>?_,?_⟩
          ·have hFc:=hF.cls
           go_big_quiet_op
           exact hK
         (try simp only [putL])
         refine segQuiet rfl rfl ?_
         apply Exists.intro
         refine ⟨fun b F hF hf K hK=>?_,?_⟩
         ·have hFc:=hF.cls
          have kA:=HKP.out.1
          go_big_quiet_op
          exact hK
         (try simp only [putL])
         refine segTold rfl (by decide) rfl ?_ ?_
         ·intro b F hF hf d
          have hFc:=hF.cls
          have h9:=hf _ List.mem_cons_self (by rfl) d
          obtain ⟨v8,w8,hr8,ho8,hb8⟩:=appX numT (by decide) 28 (F d) R3.heap.size _ h9 (hFc d).size _ _ (HKQ.out (F d) (bstep hBk.out (hFc d))).1 (by rw [itl_len,List.length_take];omega)
          simp [yieldsR,yieldsUpon,execOp,resolve,invoke,builtin,Act.eval,hr8,Result.andThen]
          exact ⟨ho8,hb8⟩
         (try simp only [putL])
         refine segQuiet rfl rfl ?_
         apply Exists.intro
         refine ⟨fun b F hF hf K hK=>?_,?_⟩
         ·have hFc:=hF.cls
          go_big_quiet_op
          exact hK
         (try simp only [putL])
         refine segTold rfl (by decide) rfl ?_ ?_
         ·intro b F hF hf d
          have hFc:=hF.cls
          simp [yieldsR,yieldsUpon,go_sem]
          exact ⟨litX_new _ _ [(k:Int)] (F d) (hFc d).size,up_alloc _ _⟩
         (try simp only [putL])
         refine segBusy rfl rfl rfl ?_ ?_
         ·intro W hW hf
          have h4:=hf _ (List.mem_cons_of_mem _ List.mem_cons_self) (by rfl) W
          have h6:=hf _ (List.mem_cons_of_mem _ (List.mem_cons_of_mem _ List.mem_cons_self)) (by rfl) W
          obtain ⟨v8,w8,hr8,ho8,ht8⟩:=app1 numT (by decide) 28 W R3.heap.size _ _ h4 (Below.size hW) _ _ h6 (by rw [itl_len,List.length_take];omega)
          rw [HLn.out] at ht8
          simp [leavesR,leavesUpon,execOp,resolve,invoke,builtin,Act.eval,hr8,Result.andThen]
          exact ⟨ho8,Tq.below hW ht8,ht8⟩
         iterate 2
          (try simp only [putL])
          refine segQuiet rfl rfl ?_
          apply Exists.intro
          refine ⟨fun b F hF hf K hK=>?_,?_⟩
          ·have hFc:=hF.cls
           go_big_quiet_op
           exact hK
         (try simp only [putL])
         refine segQuiet rfl rfl ?_
         apply Exists.intro
         refine ⟨fun b F hF hf K hK=>?_,?_⟩
         ·have hFc:=hF.cls
          have kB:=HKP.out.2
          go_big_quiet_op
          exact hK
         (try simp only [putL])
         refine segEnd ?_
         exact rfl
        ·intro x
         simp only [putsK,List.foldl_cons,List.foldl_nil,Act.put,List.setIfInBounds_toArray,List.set_cons_zero,List.set_cons_succ]
        ·intro w4 xs hB4 hf
         refine from_list 11 (by kernel_rfl) ?_
         simp only [List.drop_succ_cons,List.drop_zero]
         have h7:=hf _ (List.mem_cons_of_mem _ (List.mem_cons_of_mem _ (List.mem_cons_of_mem _ List.mem_cons_self)))
         obtain ⟨x0,e0⟩:∃ q,xs 0=q:=⟨_,rfl⟩
         obtain ⟨x4,e4⟩:∃ q,xs 4=q:=⟨_,rfl⟩
         obtain ⟨x6,e6⟩:∃ q,xs 6=q:=⟨_,rfl⟩
         obtain ⟨x7,e7⟩:∃ q,xs 7=q:=⟨_,rfl⟩
         simp only [e7] at h7
         simp only [e0,e4,e6,e7]
         have HB4:Hid (Below R3.heap.size R3 w4):=hB4
         have H7o:Hid (OwnK .i64 3 w4 R3.heap.size x7 (itl (P.take s)++[(k:Int)])):=h7
         have H7n:=HKQ.out w4 (bstep hBk.out HB4.out)
         have H7N:Hid (Nums .i64 w4 (.slice YB (np - s) (cp - s)) (itl (P.drop s))):=H7n.2
         have H7l:Hid ((itl (P.take s)++[(k:Int)]).length+(itl (P.drop s)).length≤1073741824):=by show _≤_;rw [List.length_append,itl_len,itl_len,List.length_take,List.length_drop,List.length_singleton];have:=HP.out.2.1;omega
         have ub:=XAk.out.up HB4.out
         clear hf h7 H7n hB4 e0 e4 e6 e7
         go_wp2_with (at_builtin;refine wpList_appendK numT (by decide) rfl (.tmp 75) (.tmp 78) rfl R3.heap.size _ _ rfl H7o.out _ _ rfl H7N.out H7l.out HB4.out.size R3 HB4.out ?_;intro v5 w5 H5 B5;obtain ⟨b0,b1,_,_⟩:=XAk.out.up B5;have b9:=cell_lt b0;obtain ⟨pq,nq_,cq,rfl,_⟩:=H5.out.nums.lst)
         have HO5:Hid (OwnK .i64 3 w5 R3.heap.size (.slice pq nq_ cq) (itl (insN P s k))):=by
          show OwnK _ _ _ _ _ _
          have:itl (insN P s k)=itl (P.take s)++[(k:Int)]++itl (P.drop s):=by unfold insN;rw [itl_append,List.append_assoc];rfl
          rw [this]
          exact H5.out
         have HB5:Hid (Below R3.heap.size R3 w5):=B5
         have hins:=insN_inside HS.out.1 s HS.out.2.1 I k HP.out.2.2 (by rw [HS.out.2.2.2.2.2.2.1];exact hkn)
         have hlt:=insN_lt HS.out.1 s HS.out.2.1 I k HP.out.2.2 (by rw [HS.out.2.2.2.2.2.2.1];exact hkn)
         have hev:=insN_at HS.out.1 s HS.out.2.1 I k HP.out.2.2
         rw [HP.out.1] at hins hev
         rw [HS.out.2.2.2.2.2.2.1] at hev hlt
         obtain ⟨J,eJ⟩:∃ J,(I / prodN (a.drop (s+1))*C+k)*prodN (a.drop (s+1))+I % prodN (a.drop (s+1))=J:=⟨_,rfl⟩
         rw [eJ] at hev hlt
         have riI:RI (itl (insN P s k)):=fun y hy=>by
          obtain ⟨z,hz,rfl⟩:=List.mem_map.1 hy
          obtain ⟨i,hi,rfl⟩:=List.mem_iff_getElem.1 hz
          have hi2:i < a.length:=by rw [← inside_len hins];exact hi
          have:=inside_get hins i _ _ (List.getElem?_eq_getElem hi2) (List.getElem?_eq_getElem hi)
          have h2:=HS.out.1.le _ (List.getElem_mem hi2)
          omega
         have cT:=rat_any (.slice (some ⟨q,o,none⟩) n c) (.slice pq nq_ cq) (itl a) (itl (insN P s k)) HS.out.2.2.2.2.2.2.2.2.2.2.2.2.2 riI w5 (HNw.out.up (bstep (bstep HB7.out.1 hBk.out) B5)) HO5.out.nums
         have eB:atB (itl a) (itl (insN P s k))=true:=by
          unfold atB
          rw [ntl_itl,decide_eq_true HS.out.1,inside_inB hins]
          rfl
         have eI:atI (itl a) (itl (insN P s k))=(J:Int):=by
          unfold atI
          rw [if_pos eB,ntl_itl,ntl_itl,hev]
         rw [eI,eB] at cT
         have hJn:(J:Int) < (n2:Int):=by have:=HX.out.1;have:=HS.out.2.2.2.1;omega
         have HJ:Hid ((I / prodN (a.drop (s+1))*C+k)*prodN (a.drop (s+1))+I % prodN (a.drop (s+1))=J∧J < n2):=⟨eJ,by omega⟩
         clear hins hlt hev eJ riI eB eI H5 B5
         go_wp2_with fail
         refine cT.mono ?_
         rintro e w6 ⟨rfl,dn,rfl⟩
         generalize hw6:World.drewN w5 dn=w6
         have HB6:Hid (Below R3.heap.size R3 w6):=by show Below _ _ _;rw [← hw6];exact below_drew HB5.out dn
         clear hw6 cT b0 b1 b9
         have L6:Hid (LiesS w6 R2.heap.size (sumI (fun k=>x.getD ((I / prodN (a.drop (s+1))*C+k)*prodN (a.drop (s+1))+I % prodN (a.drop (s+1))) 0) k)):=L0.out.up HB6.out
         have x6:=XAk.out.up HB6.out
         have hBw6:Below w.heap.size w w6:=bstep (bstep HB7.out.1 hBk.out) HB6.out
         obtain ⟨qx,ox,ex2,hcx⟩:=HX.out.2 J HJ.out.2
         subst ex2
         have hcx1:=cell_low hcx hBw6
         have ltx:=cell_lt hcx1
         have hXr:=getD_inR HS.out.2.2.2.2.2.2.2.2.2.2.2.1 J
         have hroom:=sums_room HS.out.2.2.2.2.2.2.2.2.2.2.2.1 (fun k=>(I / prodN (a.drop (s+1))*C+k)*prodN (a.drop (s+1))+I % prodN (a.drop (s+1))) k (by omega) _ hXr
         have eS:sumI (fun k=>x.getD ((I / prodN (a.drop (s+1))*C+k)*prodN (a.drop (s+1))+I % prodN (a.drop (s+1))) 0) (k+1)=sumI (fun k=>x.getD ((I / prodN (a.drop (s+1))*C+k)*prodN (a.drop (s+1))+I % prodN (a.drop (s+1))) 0) k+x.getD J 0:=by rw [← HJ.out.1];rfl
         obtain ⟨S0,eS0⟩:∃ S0,sumI (fun k=>x.getD ((I / prodN (a.drop (s+1))*C+k)*prodN (a.drop (s+1))+I % prodN (a.drop (s+1))) 0) k=S0:=⟨_,rfl⟩
         rw [eS0] at L6 eS
         obtain ⟨X,eX⟩:∃ X,x.getD J 0=X:=⟨_,rfl⟩
         rw [eX] at hcx1 hXr eS
         have hroom:(S0.natAbs:Int)+(X.natAbs:Int) < 115792089237316195423570985008687907853269984665640564039457584007913129639936:=by rw [← eS0,← eX];exact hroom
         have HSS:Hid (sumI (fun k=>x.getD ((I / prodN (a.drop (s+1))*C+k)*prodN (a.drop (s+1))+I % prodN (a.drop (s+1))) 0) (k+1)=S0+X):=eS
         obtain ⟨r,u0,u1,u2,u3,lt9,q0,q1,q2,q3,q4,z0,z1,z2,z3,z4,hN⟩:=L6.out
         obtain ⟨zp,hp,cFr⟩:=Rf.fromD hXr
         obtain ⟨pr,v0,v1,v2,v3,rfl,hp⟩:=hp.agg
         obtain ⟨zs,hs,cPl⟩:=Rf.plusD hN hp hroom
         obtain ⟨sr,t0,t1,t2,t3,rfl,hs⟩:=hs.agg
         have HSs:Hid (Rf.IsS (.agg #[.bool sr,.int .u64 t0,.int .u64 t1,.int .u64 t2,.int .u64 t3]) (S0+X)):=hs
         obtain ⟨b0,b1,_,_⟩:=x6
         have b9:=cell_lt b0
         clear eX eS0 eS hroom hXr hcx hN hp hs hBw6
         go_wp2_with fail
         refine flow 8 102 (by kernel_rfl) rfl rfl (by kernel_rfl) ?_
         apply Exists.intro
         refine ⟨?_,?_⟩
         ·intro F hF
          have hFc:=hF.cell
          have hFf:=hF.frozen
          simp only [List.take_succ_cons,List.take_zero,List.eraseIdx_cons_succ,List.eraseIdx_cons_zero]
          repeat (go_big_quiet_step (first|(go_at_call 138;with_reducible exact hF.call (cFr _))|(go_at_call 131;with_reducible exact hF.call (cPl _))))
          refine wpQuiet_nil ?_
          exact rfl
         ·intro W2 hW2
          simp only [List.drop_succ_cons,List.drop_zero]
          have M:=L6.out.up hW2
          have N0:Hid (LiesS (((((W2.setCell ⟨R2.heap.size,0,none⟩ (.bool sr)).setCell ⟨R2.heap.size,1,none⟩ (.int .u64 t0)).setCell ⟨R2.heap.size,2,none⟩ (.int .u64 t1)).setCell ⟨R2.heap.size,3,none⟩ (.int .u64 t2)).setCell ⟨R2.heap.size,4,none⟩ (.int .u64 t3)) R2.heap.size (S0+X)):=M.set HSs.out
          have B2:Hid (Below R2.heap.size R2 (((((W2.setCell ⟨R2.heap.size,0,none⟩ (.bool sr)).setCell ⟨R2.heap.size,1,none⟩ (.int .u64 t0)).setCell ⟨R2.heap.size,2,none⟩ (.int .u64 t1)).setCell ⟨R2.heap.size,3,none⟩ (.int .u64 t2)).setCell ⟨R2.heap.size,4,none⟩ (.int .u64 t3))):=below_set5 (bstep (bstep hBk.out HB6.out) hW2) _ (Nat.le_refl _) _ _ _ _ _
          obtain ⟨r',y0_,y1_,y2_,y3_,lt9',q0',q1',q2',q3',q4',z0',z1',z2',z3',z4',_⟩:=M
          clear hW2 cFr cPl q0 q1 q2 q3 q4 z0 z1 z2 z3 z4 lt9 L6 L0 hcx1 ltx b0 b1 b9
          go_wp2
          go_roundg (C - (k+1))
          case measure=>omega
          case rel=>exact ⟨k+1,by omega,rfl,by first|rfl|simp,by rw [HSS.out];exact N0,B2⟩
       ·obtain rfl:k=C:=by omega
        have eZ:V.getD I 0=hold (sumI (fun j=>x.getD ((I / prodN (a.drop (s+1))*k+j)*prodN (a.drop (s+1))+I % prodN (a.drop (s+1))) 0) k):=by
         rw [← HS.out.2.2.2.2.2.2.2.2.1,sumV_at a s x I HP.out.2.2,HS.out.2.2.2.2.2.2.1]
         rfl
        obtain ⟨S0,eS0⟩:∃ S0,sumI (fun j=>x.getD ((I / prodN (a.drop (s+1))*k+j)*prodN (a.drop (s+1))+I % prodN (a.drop (s+1))) 0) k=S0:=⟨_,rfl⟩
        rw [eS0] at L0 eZ
        obtain ⟨Z,eZ2⟩:∃ Z,V.getD I 0=Z:=⟨_,rfl⟩
        have HZ:Hid (V.getD I 0=Z):=eZ2
        obtain ⟨r,u0,u1,u2,u3,lt9,q0,q1,q2,q3,q4,z0,z1,z2,z3,z4,hN⟩:=L0.out
        have cHe:∀ W,Calls Tryz.prog 133 #[.agg #[.bool r,.int .u64 u0,.int .u64 u1,.int .u64 u2,.int .u64 u3]] W fun e w'=>e = .returned (.int .i64 Z)∧Below W.heap.size W w':=fun W=>by
         rw [← eZ2,eZ]
         exact Rf.heldS _ _ hN W
        have xT3:Cel R3 b8 (.slice p8 n8 c8) (.slice (some ⟨g,0,none⟩) N cg):=(XT.out.stay HB7.out.2.1 (by have:=Hg.out;omega)).up hBk.out
        obtain ⟨t0,t1,_,_⟩:=xT3
        have t9:=cell_lt t0
        clear eZ eZ2 eS0 hN hBw
        go_wp2_with fail
        refine flow 6 102 (by kernel_rfl) rfl rfl (by kernel_rfl) ?_
        apply Exists.intro
        refine ⟨?_,?_⟩
        ·intro F hF
         have hFc:=hF.cell
         have hFf:=hF.frozen
         simp only [List.take_succ_cons,List.take_zero,List.eraseIdx_cons_succ,List.eraseIdx_cons_zero]
         repeat (go_big_quiet_step (first|(go_at_call 133;with_reducible exact hF.call (cHe _))))
         refine wpQuiet_nil ?_
         exact rfl
        ·intro W2 hW2
         simp only [List.drop_succ_cons,List.drop_zero]
         have hB2:=bstep hBk.out hW2
         have HR2:=HRI.out.up (bstep HB7.out.2.2 hB2)
         obtain ⟨hown,hfz⟩:=HR2.cell (by rw [rowF_len];exact HS.out.2.2.2.2.2.2.2.2.2.1) I hIn
         have lt2:=cell_lt hown
         have H5:Hid (OwnK .i64 33 (W2.setCell ⟨g,I,none⟩ (.int .i64 Z)) g (.slice (some ⟨g,0,none⟩) N cg) (rowF V (I+1))):=by
          have:=HR2.store (by rw [rowF_len];exact HS.out.2.2.2.2.2.2.2.2.2.1) I Z
          rw [← HZ.out,rowF_set V I (by rw [HS.out.2.2.2.2.2.2.2.2.2.1];exact hIn)] at this
          rw [← HZ.out]
          exact this
         have hgw:w.heap.size≤g:=by have:=Hg.out;omega
         have H6:Hid (Below w.heap.size w (W2.setCell ⟨g,I,none⟩ (.int .i64 Z))∧Stay g W9 (W2.setCell ⟨g,I,none⟩ (.int .i64 Z))):=⟨(bstep HB7.out.1 hB2).setCell (p:=⟨g,I,none⟩) hgw _,(HB7.out.2.1.up hB2).set _ _⟩
         clear hW2 hB2 HR2 cHe q0 q1 q2 q3 q4 z0 z1 z2 z3 z4 lt9 L0 hBk t0 t1 t9 a0 a1 a9 ua ua9
         go_wp2
         go_roundg (N - (I+1))
         case measure=>omega
         case rel=>exact ⟨I+1,by omega,rfl,by first|rfl|simp,H5,H6⟩
     ·obtain rfl:I=N:=by omega
      have hfin:=HRI.out
      rw [← HS.out.2.2.2.2.2.2.2.2.2.1,rowF_full,HS.out.2.2.2.2.2.2.2.2.2.1] at hfin
      have xR:Cel R1 (w.heap.size+1) (.slice none 0 0) (.slice none 0 0):=(XR.out.up HB9.out.2).stay hBI.out.2 (by have:=Hg.out;omega)
      have o1:=HD9.out.1.stay hBI.out.2 HD9.out.2
      have HF:Hid (TRes (set2 R1 (w.heap.size+1) (.slice p8 n8 c8) (.slice (some ⟨g,0,none⟩) I cg)) w.heap.size (.agg #[.slice p8 n8 c8,.slice (some ⟨g,0,none⟩) I cg]) (itl (lessN a s)) V∧Below w.heap.size w (set2 R1 (w.heap.size+1) (.slice p8 n8 c8) (.slice (some ⟨g,0,none⟩) I cg))):=
       ⟨(TRes.set (B:=W0.heap.size) (o1.low Hg.out.2.2.2) (hfin.low Hg.out.1) Hg.out.2.1).low (by have:=Hg.out;omega),below_cell hBI.out.1 _ (by omega) _ _⟩
      have cf:=xR.set (.slice p8 n8 c8) (.slice (some ⟨g,0,none⟩) I cg)
      obtain ⟨r0,r1,r2,r3⟩:=xR
      obtain ⟨y0,y1,_,_⟩:=cf
      clear hfin o1
      go_wp2
      exact bodyPost_ret (v:=.tuple #[.agg #[.slice p8 n8 c8,.slice (some ⟨g,0,none⟩) I cg],.int .i64 0]) (by simp [results,Tryz.results92,go_sem,y0,y1]) rfl ⟨_,rfl,HF.out⟩
   ·have hs1':(n:Int)≤side:=by omega
    have hsm:¬ smP d x side:=fun h=>hs1 (by rw [← HD.out.1];exact h.2.2)
    rw [(sm_none hsm).1,(sm_none hsm).2.1,(sm_none hsm).2.2.1]
    clear hsm hp hd hx h1 h2 HD HX
    go_enter Tryz.func92,Tryz.ntmps92
    go_wp2_with fail
    generalize hW0:World.alloc _ _=W0
    have HB0:=hidB (w:=w) hW0 (by go_grown)
    have XA:Hid (Cel W0 w.heap.size (.slice p n c) (.slice p2 n2 c2)):=celW hW0 (by simp [go_sem])
    have XR:Hid (Cel W0 (w.heap.size+1) (.slice none 0 0) (.slice none 0 0)):=celW hW0 (by simp [go_sem])
    clear hW0
    refine (cA W0 HB0.out).mono ?_
    rintro e w1 ⟨rfl,hB1⟩
    have HB1:=hid2 (bstep HB0.out hB1) hB1
    clear hB1 cA
    obtain ⟨a0,a1,_,_⟩:=XA.out.up HB1.out.2
    have a9:=cell_lt a0
    have xr:=XR.out.up HB1.out.2
    have BF:=below_cell HB1.out.1 (w.heap.size+1) (by omega) (.slice none 0 0) (.slice none 0 0)
    have cf:=xr.set (.slice none 0 0) (.slice none 0 0)
    obtain ⟨r0,r1,r2,r3⟩:=xr
    obtain ⟨y0,y1,_,_⟩:=cf
    go_wp2
    exact bodyPost_ret (v:=.tuple #[.agg #[.slice none 0 0,.slice none 0 0],.int .i64 1]) (by simp [results,Tryz.results92,go_sem,y0,y1]) rfl ⟨_,rfl,TRes.none _ _,BF⟩
  ·have hs0':side < 0:=by omega
   have hsm:¬ smP d x side:=fun h=>hs0 h.2.1
   rw [(sm_none hsm).1,(sm_none hsm).2.1,(sm_none hsm).2.2.1]
   clear hsm hp hd hx h1 h2 HD HX
   go_enter Tryz.func92,Tryz.ntmps92
   go_wp2_with fail
   generalize hW0:World.alloc _ _=W0
   have HB0:=hidB (w:=w) hW0 (by go_grown)
   have XA:Hid (Cel W0 w.heap.size (.slice p n c) (.slice p2 n2 c2)):=celW hW0 (by simp [go_sem])
   have XR:Hid (Cel W0 (w.heap.size+1) (.slice none 0 0) (.slice none 0 0)):=celW hW0 (by simp [go_sem])
   clear hW0
   refine (cA W0 HB0.out).mono ?_
   rintro e w1 ⟨rfl,hB1⟩
   have HB1:=hid2 (bstep HB0.out hB1) hB1
   clear hB1 cA
   obtain ⟨a0,a1,_,_⟩:=XA.out.up HB1.out.2
   have a9:=cell_lt a0
   have xr:=XR.out.up HB1.out.2
   have BF:=below_cell HB1.out.1 (w.heap.size+1) (by omega) (.slice none 0 0) (.slice none 0 0)
   have cf:=xr.set (.slice none 0 0) (.slice none 0 0)
   obtain ⟨r0,r1,r2,r3⟩:=xr
   obtain ⟨y0,y1,_,_⟩:=cf
   go_wp2
   exact bodyPost_ret (v:=.tuple #[.agg #[.slice none 0 0,.slice none 0 0],.int .i64 1]) (by simp [results,Tryz.results92,go_sem,y0,y1]) rfl ⟨_,rfl,TRes.none _ _,BF⟩
 ·rw [decide_eq_false hp] at cA
  have hsm:¬ smP d x side:=fun h=>hp h.1
  rw [(sm_none hsm).1,(sm_none hsm).2.1,(sm_none hsm).2.2.1]
  clear hsm hp hd hx h1 h2 HD HX
  go_enter Tryz.func92,Tryz.ntmps92
  go_wp2_with fail
  generalize hW0:World.alloc _ _=W0
  have HB0:=hidB (w:=w) hW0 (by go_grown)
  have XA:Hid (Cel W0 w.heap.size (.slice p n c) (.slice p2 n2 c2)):=celW hW0 (by simp [go_sem])
  have XR:Hid (Cel W0 (w.heap.size+1) (.slice none 0 0) (.slice none 0 0)):=celW hW0 (by simp [go_sem])
  clear hW0
  refine (cA W0 HB0.out).mono ?_
  rintro e w1 ⟨rfl,hB1⟩
  have HB1:=hid2 (bstep HB0.out hB1) hB1
  clear hB1 cA
  obtain ⟨a0,a1,_,_⟩:=XA.out.up HB1.out.2
  have a9:=cell_lt a0
  have xr:=XR.out.up HB1.out.2
  have BF:=below_cell HB1.out.1 (w.heap.size+1) (by omega) (.slice none 0 0) (.slice none 0 0)
  have cf:=xr.set (.slice none 0 0) (.slice none 0 0)
  obtain ⟨r0,r1,r2,r3⟩:=xr
  obtain ⟨y0,y1,_,_⟩:=cf
  go_wp2
  exact bodyPost_ret (v:=.tuple #[.agg #[.slice none 0 0,.slice none 0 0],.int .i64 1]) (by simp [results,Tryz.results92,go_sem,y0,y1]) rfl ⟨_,rfl,TRes.none _ _,BF⟩
end Go.Proofs.YtlhpmjcdkpfjdaaGreatDoor.Wd
