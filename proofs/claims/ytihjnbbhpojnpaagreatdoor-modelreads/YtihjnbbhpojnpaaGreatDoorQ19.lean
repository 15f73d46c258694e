/- The reference's Shapes. -/
import Derived.Test.YtihjnbbhpojnpaaGreatDoorQ18
import Derived.Deep.CutBlock
set_option linter.unusedVariables false
set_option linter.unusedSimpArgs false
set_option maxHeartbeats 16000000
set_option maxRecDepth 16000
namespace Go.Proofs.YtihjnbbhpojnpaaGreatDoor.Wd
open Go.RowKit
theorem rG_app {ls:List Ly} {S:List (List Int)} (o:List Int):∀ {k:Nat},k+1≤S.length→rG ls (S++[o]) k=rG ls S k
 | 0,_=>rfl
 | k+1,h=>by
  simp only [rG]
  rw [rG_app o (k:=k) (by omega),shA_app _ (by omega),shA_app _ (by omega)]
theorem outD_conv {s:ByteArray} {x y:Int} {dd:List Int} (h:kindI s=1) (hb:dd.length≠2):outD (s,x,y) dd=none:=by
 unfold outD
 simp [h,hb]
theorem outD_pool {s:ByteArray} {x y:Int} {dd:List Int} (h:kindI s=2) (hb:dd.length≠2):outD (s,x,y) dd=none:=by
 unfold outD
 simp [h,hb]
/-- What Shapes answers. -/
def ShR (d:List Int) (ls:List Ly) (B:Nat) (e:Ending) (W:World):Prop:=∃ v',e = .returned (.tuple #[v',.int .i64 (nP d ls),.int .i64 (nE d ls)])∧OwnS W B v' (nS d ls)
theorem ShR.bad {d:List Int} {ls:List Ly} {B:Nat} {W:World} {E:Int} (h:nE d ls=E) (h0:E≠0):ShR d ls B (.returned (.tuple #[.slice none 0 0,.int .i64 0,.int .i64 E])) W:=by
 obtain ⟨e1,e2⟩:=nE_bad (d:=d) (ls:=ls) (by rw [h];exact h0)
 exact ⟨_,by rw [e2,h],by rw [e1];exact OwnS.nil W B⟩
/-- One shape more, behind those that the call made. -/
theorem shp_push {w wc w2:World} {N:Obj} {ps pa:Option Addr} {sl cs na ca:Nat} {S:List (List Int)} {oo:List Int} (hO:OwnS wc w.heap.size (.slice ps sl cs) S) (hl:S.length=sl) (hB:Below w.heap.size w wc) (hN:∃ a b,N = .cells a b (0,0)∧b≠23) (hX:wc.heap[w.heap.size]?=some N) (h2:OwnK .i64 3 w2 wc.heap.size (.slice pa na ca) oo) (hb2:Below wc.heap.size wc w2):
  ∃ vs,(w2.alloc (.cells #[.slice pa na ca] 23)).ownsRow w.heap.size 23 1 (.slice ps sl cs) sl vs∧(w2.alloc (.cells #[.slice pa na ca] 23)).heap[w2.heap.size]?=some (.cells [.slice pa na ca].toArray 23 (0,0))∧(∀ y∈[Value.slice pa na ca],y.oneCell'=true)∧w.heap.size≤(w2.alloc (.cells #[.slice pa na ca] 23)).heap.size∧
   ∀ v0 w0,w0.ownsRow w.heap.size 23 1 v0 (sl+1) (vs++[.slice pa na ca])→Only [23] (w2.alloc (.cells #[.slice pa na ca] 23)) w0→(∀ w',Below w.heap.size w' (w2.alloc (.cells #[.slice pa na ca] 23))→Below w.heap.size w' w0)→(OwnS w0 w.heap.size v0 (S++[oo])∧Below w.heap.size w w0)∧w0.heap[w.heap.size]?=some N:=by
 obtain ⟨vs,hvs,hv4⟩:=hO
 have hvl:vs.length=S.length:=by have:=hvs.1;omega
 have hb:=up_alloc w2 (.cells #[.slice pa na ca] 23)
 have hbb:Below wc.heap.size wc (w2.alloc (.cells #[.slice pa na ca] 23)):=bstep hb2 hb
 rw [hl] at hvs
 refine ⟨vs,owns_only (S:=[]) hvs (Only.of hbb) (by simp),heap_alloc_new w2 _,fun y hy=>by simp at hy;subst hy;rfl,by have:=(bstep hB hbb).size;exact this,fun v0 w0 g1 g2 g3=>?_⟩
 obtain ⟨ca',cb',rfl,hne⟩:=hN
 refine ⟨⟨OwnS.push (W:=w2.alloc (.cells #[.slice pa na ca] 23)) (vs:=vs) (by rw [hl];exact g1) hvl (fun i hi=>?_) ((h2.low hB.size).up hb) g2,g3 w (bstep hB hbb)⟩,g2.keep ((hbb.block _ (heap_lt hX)).trans hX) (by simpa using hne)⟩
 obtain ⟨a',b',c',e',h'⟩:=hv4 i hi
 exact ⟨a',b',c',e',h'.up hbb⟩
theorem rshapes_any (p p2:Option Addr) (n c n2 c2:Nat) (d:List Int) (ls:List Ly) (hbig:n2≤1073741823) (w:World) (h1:Nums .i64 w (.slice p n c) d) (hL:LyR 0 w p2 n2 ls):
  Calls Tryz.prog 20 #[.agg #[.slice p n c,.slice p2 n2 c2]] w fun e w'=>ShR d ls w.heap.size e w'∧Below w.heap.size w w':=by
 haveI:Nonempty World:=⟨w⟩
 have HK:Hid (Nums .i64 w (.slice p n c) d∧LyR 0 w p2 n2 ls):=⟨h1,hL⟩
 clear h1 hL
 go_enter Tryz.func20,Tryz.ntmps20
 go_wp2_with fail
 generalize hW0:World.alloc _ _=W0
 have HB0:Hid (Below w.heap.size w W0):=by rw [← hW0];exact up_alloc w _
 have HX0:Hid (W0.heap[w.heap.size]?=some (.cells #[.slice p n c,.slice p2 n2 c2] 32 (0,0))):=by
  show _=_
  rw [← hW0]
  exact heap_alloc_new w _
 clear hW0
 obtain ⟨qf,eqf⟩:∃ q,formB d ls=q:=⟨_,rfl⟩
 have HF:Hid (formB d ls=qf):=eqf
 have cF:=formed_any p p2 n c n2 c2 d ls (by omega) W0 (HK.out.1.up HB0.out) (HK.out.2.up HB0.out)
 rw [eqf] at cF
 clear eqf
 refine cF.mono ?_
 rintro e w1 ⟨rfl,hB⟩
 have HB1:Hid (Below w.heap.size w w1):=bstep HB0.out hB
 have HX1:Hid (w1.heap[w.heap.size]?=some (.cells #[.slice p n c,.slice p2 n2 c2] 32 (0,0))):=(hB.block _ (heap_lt HX0.out)).trans HX0.out
 obtain ⟨⟨g0,_⟩,⟨g1,_⟩⟩:=box_2 HX1.out
 have kg:=cell_size g0
 clear hB HB0 HX0 cF
 cases qf with
 | false=>
  have hE:nE d ls=1:=nE_form (by rw [HF.out];simp)
  have HE:Hid (nE d ls=1):=hE
  clear hE
  go_wp2
  exact bodyPost_ret (v:=.tuple #[.slice none 0 0,.int .i64 0,.int .i64 1]) (by simp [results,Tryz.results20,go_sem]) rfl ⟨ShR.bad HE.out (by decide),HB1.out⟩
 | true=>
  obtain ⟨hd,hly⟩:=(formB_iff d ls).1 HF.out
  have HD:Hid (InOk d∧∀ l∈ls,LayOk l):=⟨hd,hly⟩
  have H5:Hid (OwnK .i64 3 (w1.alloc (.cells #[] 3)) w1.heap.size (.slice (some ⟨w1.heap.size,0,none⟩) 0 0) []):=own_lit (k:=.i64) (e:=3) w1 [] 0 rfl (by decide)
  have H6:Hid (Nums .i64 (w1.alloc (.cells #[] 3)) (.slice p n c) d):=HK.out.1.up (bstep HB1.out (up_alloc w1 _))
  have H7:Hid (([]:List Int).length+d.length≤1073741824):=by show _≤_;have:=hd.smal.1;simp;omega
  have H8:Hid (w1.heap.size≤(w1.alloc (.cells #[] 3)).heap.size):=by show _≤_;simp
  have H9:Hid (Below w1.heap.size w1 (w1.alloc (.cells #[] 3))):=up_alloc w1 _
  clear hd hly
  go_wp2_with (at_builtin;refine wpList_appendK numT (by decide) rfl (.tmp 15) (.tmp 17) rfl w1.heap.size _ [] rfl H5.out _ d rfl H6.out H7.out H8.out w1 H9.out ?_;intro v2 w2 H2 B2;obtain ⟨pa,na,ca,rfl,_⟩:=H2.out.nums.lst;have HB2:Hid (Below w1.heap.size w1 w2):=B2;clear B2;replace g0:=still_cell HB2.out g0;replace g1:=still_cell HB2.out g1;replace kg:=cell_size g0)
  generalize hW3:World.alloc _ _=W3
  have hB3:Below w2.heap.size w2 W3:=by rw [← hW3];exact up_alloc w2 _
  have HO3:Hid (OwnS W3 w.heap.size (.slice (some ⟨w2.heap.size,0,none⟩) 1 1) [d]∧Below w.heap.size w W3):=by
   show _∧_
   refine ⟨⟨[.slice pa na ca],⟨rfl,.inr ⟨w2.heap.size,1,#[.slice pa na ca],rfl,(bstep HB1.out HB2.out).size,?_,Nat.le_refl _,by unfold maxLen;omega,rfl,rfl⟩⟩,fun i hi=>?_⟩,bstep (bstep HB1.out HB2.out) hB3⟩
   ·rw [← hW3]
    exact heap_alloc_new w2 _
   ·obtain rfl:i=0:=by simp at hi;omega
    exact ⟨_,_,_,rfl,(H2.out.low HB1.out.size).up hB3⟩
  have HX3:Hid (W3.heap[w.heap.size]?=some (.cells #[.slice p n c,.slice p2 n2 c2] 32 (0,0))):=(hB3.block _ (by have:=heap_lt HX1.out;have:=HB2.out.size;omega)).trans ((HB2.out.block _ (heap_lt HX1.out)).trans HX1.out)
  replace g0:=still_cell hB3 g0
  replace g1:=still_cell hB3 g1
  replace kg:=cell_size g0
  clear hW3 hB3 H2 H5 H6 H7 H8 H9 HB1 HB2 HX1
  go_region
  have HO4:Hid (OwnS W3.drew w.heap.size (.slice (some ⟨w2.heap.size,0,none⟩) 1 1) [d]∧Below w.heap.size w W3.drew):=by
   have hD:Below W3.heap.size W3 W3.drew:=⟨rfl,rfl,rfl,Nat.le_refl _,fun _ _=>rfl⟩
   exact ⟨HO3.out.1.up hD,bstep HO3.out.2 hD⟩
  clear HO3
  go_wp2_with fail
  go_loopg [5,6,7,8] n2 (fun gg v5 v6 v7 v8 wr=>∃ (k:Nat) (S:List (List Int)) (g:Bool) (a:Int),k≤n2∧gg=n2 - k∧v6 = .int .i64 a∧v7 = .bool g∧v8 = .int .i64 (k:Int)∧Hid (OwnS wr w.heap.size v5 S∧Below w.heap.size w wr)∧Hid (shN d ls k=some S)∧Hid (rG ls S k=(g,a))∧Hid (wr.heap[w.heap.size]?=some (.cells #[.slice p n c,.slice p2 n2 c2] 32 (0,0))))
  case atStart=>
   refine ⟨0,[d],_,0,by omega,by omega,rfl,rfl,rfl,HO4,rfl,?_,HX3⟩
   show (decide (16 < ls.length),(0:Int))=_
   rw [HK.out.2.1]
   exact Prod.ext (decide_eq_decide.2 (by omega)) rfl
  case round=>
   obtain ⟨k,S,g,a,hk,hg,rfl,rfl,rfl,HO,HS,HR,HX⟩:=hrel
   obtain ⟨ps,cs,rfl,hrd⟩:=HO.out.1.rd
   have hSl:=shN_len HS.out
   obtain ⟨sl,esl⟩:∃ sl,S.length=sl:=⟨_,rfl⟩
   rw [esl] at hrd hSl HO ⊢
   have HRD:Hid (RdS wr ps sl S):=hrd
   have HSL:Hid (S.length=sl∧sl=k+1):=⟨esl,hSl⟩
   have hs1:(sl:Int) - 1=(k:Int):=by omega
   have hs2:(k:Int) < (sl:Int):=by omega
   obtain ⟨⟨g0,_⟩,⟨g1,_⟩⟩:=box_2 HX.out
   have kg:=cell_size g0
   clear esl hrd hSl
   by_cases hkn:k < n2
   ·have hk':(k:Int) < (n2:Int):=by omega
    have hkl:k < ls.length:=by rw [HK.out.2.1];exact hkn
    obtain ⟨q,o,rfl,c0,c1,c2'⟩:=(HK.out.2.up HO.out.2).2 k hkn
    obtain ⟨q3,o3,a3,b3,d3,rfl,s3,m3⟩:=HRD.out.2 k (by have:=HSL.out.2;omega)
    have hl:=HD.out.2 _ (lyA_mem hkl)
    have hin:=shN_in HD.out.1 HD.out.2 (by omega) HS.out k (by omega)
    obtain ⟨l,el⟩:∃ l,lyA ls k=l:=⟨_,rfl⟩
    obtain ⟨dd,ed⟩:∃ dd,shA S k=dd:=⟨_,rfl⟩
    have har:=rG_rng (ls:=ls) (S:=S) (i:=k) (fun j hj=>shN_in HD.out.1 HD.out.2 (by omega) HS.out j (by omega)) (fun j hj=>HD.out.2 _ (lyA_mem (by omega)))
    rw [HR.out] at har
    simp only [] at har
    obtain ⟨s,x,y⟩:=l
    have HSK:Hid (stepS ls k S=if s=kSkip∧¬ SkipOk ls S k then none else (outD (s,x,y) dd).map fun o=>S++[o]):=by
     have key:∀ l dd,lyA ls k=l→shA S k=dd→stepS ls k S=if l.1=kSkip∧¬ SkipOk ls S k then none else (outD l dd).map fun o=>S++[o]:=by
      rintro _ _ rfl rfl
      rfl
     exact key _ _ el ed
    have HRN:Hid (∀ oo,rG ls (S++[oo]) (k+1)=if 4096 < a+psz (s,x,y) dd then (true,4097) else (g || rP (s,x,y) dd || decide (4096 < prodI oo),a+psz (s,x,y) dd)):=fun oo=>by
     have h1:S.length=k+1:=by rw [HSL.out.1,HSL.out.2]
     simp only [rG]
     rw [rG_app oo (by omega),HR.out,el,shA_app _ (by omega),ed,shA_last S oo (k+1) h1]
    rw [el] at c0 c1 c2' hl
    rw [ed] at m3 hin
    have HM:Hid (Nums .i64 wr (.slice a3 b3 d3) dd):=m3
    have HLI:Hid (LayOk (s,x,y)∧InOk dd):=⟨hl,hin⟩
    have hlt:=cell_size c0
    have hl3:=cell_size s3
    have HED:Hid (shA S k=dd∧lyA ls k=(s,x,y)):=⟨ed,el⟩
    clear el ed hl hin m3 hkl
    go_upto_block 2 with fail
    generalize hW2:World.alloc _ _=W2
    have HB2:Hid (Below wr.heap.size wr W2):=by rw [← hW2];exact up_alloc wr _
    obtain ⟨e0,e1,e2⟩:W2.cell? ⟨wr.heap.size,0,none⟩=some (.string s)∧W2.cell? ⟨wr.heap.size,1,none⟩=some (.int .i64 x)∧W2.cell? ⟨wr.heap.size,2,none⟩=some (.int .i64 y):=by rw [← hW2];simp [go_sem]
    have ke:=cell_size e0
    replace g0:=still_cell HB2.out g0
    replace g1:=still_cell HB2.out g1
    replace kg:=cell_size g0
    clear hW2 c0 c1 c2' s3 hlt hl3
    go_cut [6,7,9,11] from 24 to 176 (fun v6 v7 v9 v11 wx=>∃ (g':Bool) (a':Int) (pd:Option Addr) (nd cd:Nat) (oo:List Int),v6 = .int .i64 a'∧v7 = .bool g'∧v9 = .slice pd nd cd∧Hid (shN d ls (k+1)=some (S++[oo])∧g'=(g || rP (s,x,y) dd)∧a'=a+psz (s,x,y) dd∧InOk oo)∧Hid (Nums .i64 wx (.slice pd nd cd) oo∧Below wr.heap.size wr wx))
    case first=>
     obtain ⟨k0,k1,k2,k3,k4⟩:=kts s
     have hkl:=kind_le s
     obtain ⟨z,ez⟩:∃ z,kindI s=z:=⟨_,rfl⟩
     have HZ:Hid (kindI s=z):=ez
     rw [ez] at k0 k1 k2 k3 k4 hkl
     have hz5:z < 5:=by rw [← ez];exact HLI.out.1.1
     clear ez
     obtain ⟨pm,nm,cm,em',HC⟩:=(HM.out.up HB2.out).lst
     cases em'
     have HB2r:Hid (Below w.heap.size w W2):=bstep HO.out.2 HB2.out
     rcases (show z=0∨z=1∨z=2∨z=3∨z=4 by omega) with rfl|rfl|rfl|rfl|rfl
     ·simp only [decide_true,show (decide ((0:Nat)=0))=true from by decide,show (decide ((0:Nat)=1))=false from by decide,show (decide ((0:Nat)=2))=false from by decide,show (decide ((0:Nat)=3))=false from by decide,show (decide ((0:Nat)=4))=false from by decide] at k0 k1 k2 k3 k4
      have hxr:1≤x∧x≤256:=by
       rcases layOk_cases HLI.out.1 with ⟨-,h,h1,-⟩|⟨-,h,h1,-⟩|⟨-,h,h1,-⟩|⟨-,h,h1,-⟩|⟨-,h,h1,-⟩ <;> simp only [HZ.out] at h <;> first|exact h1|omega
      go_wp2_with fail
      have cP:=rprod_any (.slice a3 b3 d3) dd HLI.out.2.smal W2 (HM.out.up HB2.out)
      have hpr:=HLI.out.2.prod
      obtain ⟨M,eM⟩:∃ M,prodI dd=M:=⟨_,rfl⟩
      rw [eM] at cP hpr
      have htr:=mprod_rng hxr hpr
      obtain ⟨t,et⟩:∃ t,x*M=t:=⟨_,rfl⟩
      have HP:Hid (rP (s,x,y) dd=decide (4096 < t)∧psz (s,x,y) dd=t+x):=by
       unfold rP psz
       simp only [HZ.out,if_true]
       rw [eM,et]
       exact ⟨rfl,rfl⟩
      rw [et] at htr
      clear eM
      refine cP.mono ?_
      rintro e w3 ⟨rfl,rfl⟩
      clear cP
      cases g with
      | true=>
       go_wp2
       go_meet
       case rel=>exact ⟨_,_,_,_,_,[x],rfl,rfl,rfl,⟨(show shN d ls (k+1)=some (S++[[x]]) by rw [shN_succ HS.out,HSK.out,if_neg fun h=>absurd ((kskip s).1 h.1) (by rw [HZ.out];decide),show outD (s,x,y) dd=some [x] by unfold outD;rw [if_pos HZ.out]];rfl),by rw [HP.out.1];rfl,by rw [HP.out.2,Int.add_assoc],.inl ⟨x,rfl,by omega,by omega⟩⟩,⟨nums_lit (k:=.i64) _ [x] 1 (0,0) rfl,bstep HB2.out (up_alloc _ _)⟩⟩
      | false=>
       go_wp2
       go_meet
       case rel=>exact ⟨_,_,_,_,_,[x],rfl,rfl,rfl,⟨(show shN d ls (k+1)=some (S++[[x]]) by rw [shN_succ HS.out,HSK.out,if_neg fun h=>absurd ((kskip s).1 h.1) (by rw [HZ.out];decide),show outD (s,x,y) dd=some [x] by unfold outD;rw [if_pos HZ.out]];rfl),by rw [HP.out.1];rfl,by rw [HP.out.2,Int.add_assoc],.inl ⟨x,rfl,by omega,by omega⟩⟩,⟨nums_lit (k:=.i64) _ [x] 1 (0,0) rfl,bstep HB2.out (up_alloc _ _)⟩⟩
     ·simp only [decide_true,show (decide ((1:Nat)=0))=false from by decide,show (decide ((1:Nat)=1))=true from by decide,show (decide ((1:Nat)=2))=false from by decide,show (decide ((1:Nat)=3))=false from by decide,show (decide ((1:Nat)=4))=false from by decide] at k0 k1 k2 k3 k4
      have hxr:(1≤x∧x≤16)∧1≤y∧y≤16:=by
       rcases layOk_cases HLI.out.1 with ⟨-,h,h1,-⟩|⟨-,h,h1,h2⟩|⟨-,h,h1,-⟩|⟨-,h,h1,-⟩|⟨-,h,h1,-⟩ <;> simp only [HZ.out] at h <;> first|exact ⟨h1,h2⟩|omega
      have hcs:(∃ u v,dd = [u,v]∧b3=2)∨b3≠2:=by
       by_cases h:b3=2
       ·have hl2:=HC.out.1
        rw [h] at hl2
        match dd,hl2 with
        | [u,v],_=>exact .inl ⟨u,v,rfl,h⟩
       ·exact .inr h
      rcases hcs with ⟨u,v,rfl,hb3⟩|hb3
      ·obtain ⟨qa,oa,rfl,u0⟩:=HC.out.2 0 (by omega)
       obtain ⟨qb,ob,e,v0⟩:=HC.out.2 1 (by omega)
       cases e
       simp only [List.getD_cons_zero,List.getD_cons_succ,Nat.add_zero] at u0 v0
       have ku:=cell_size u0
       have huv:(1≤u∧u≤64)∧1≤v∧v≤64:=by
        rcases HLI.out.2 with ⟨a,h,_⟩|⟨a,b,h,h1,h2⟩
        ·simp at h
        ·simp only [List.cons.injEq,and_true] at h
         obtain ⟨rfl,rfl⟩:=h
         exact ⟨h1,h2⟩
       have t2:((b3:Int) != 2)=false:=by rw [hb3];rfl
       have i0:(0:Int) < (b3:Int):=by omega
       have i1:(1:Int) < (b3:Int):=by omega
       clear hb3
       by_cases hy:v < y
       ·have HNO:Hid (shN d ls ls.length=none):=by
         refine shN_stop (i:=k+1) ?_ (by rw [HK.out.2.1];omega)
         rw [shN_succ HS.out,HSK.out]
         rw [if_neg fun h=>absurd ((kskip s).1 h.1) (by rw [HZ.out];decide)]
         rw [show outD (s,x,y) [u,v]=none by unfold outD;simp only [HZ.out];simp;omega]
         rfl
        clear HRN HSK
        go_wp2
        go_region
        go_wp2
        exact bodyPost_ret (v:=.tuple #[.slice none 0 0,.int .i64 0,.int .i64 4]) (by simp [results,Tryz.results20,go_sem]) rfl ⟨ShR.bad (nE_none HF.out (HNO.out)) (by decide),by have h9:=HB2r.out;exact bstep h9 ⟨rfl,rfl,rfl,Nat.le_refl _,fun _ _=>rfl⟩⟩
       have hy':y≤v:=by omega
       have hm1:=mprod_rng hxr.1 huv.1
       obtain ⟨t,et⟩:∃ t,x*u=t:=⟨_,rfl⟩
       rw [et] at hm1
       have hm2:=mprod_rng hm1 hxr.2
       obtain ⟨t',et'⟩:∃ t',t*y=t':=⟨_,rfl⟩
       rw [et'] at hm2
       have HP:Hid (rP (s,x,y) [u,v]=decide (4096 < t')∧psz (s,x,y) [u,v]=t'):=by
        unfold rP psz
        simp only [HZ.out,if_neg (show ¬ (1:Nat)=0 by omega),if_true,List.getD_cons_zero]
        rw [et,et']
        exact ⟨rfl,rfl⟩
       have HOU:Hid (outD (s,x,y) [u,v]=some [x,v - y+1]):=by
        show _=_
        unfold outD
        simp only [HZ.out]
        simp
        omega
       cases g with
       | true=>
        iterate 4
         go_wp2
         go_region
        go_wp2
        go_meet
        case rel=>exact ⟨_,_,_,_,_,[x,v - y+1],rfl,rfl,rfl,⟨(show shN d ls (k+1)=some (S++[[x,v - y+1]]) by rw [shN_succ HS.out,HSK.out,if_neg fun h=>absurd ((kskip s).1 h.1) (by rw [HZ.out];decide),HOU.out];rfl),by rw [HP.out.1];rfl,by rw [HP.out.2],.inr ⟨x,_,rfl,by omega,by omega,by omega⟩⟩,⟨nums_lit (k:=.i64) _ [x,v - y+1] 2 (0,0) rfl,bstep HB2.out (by go_grown)⟩⟩
       | false=>
        iterate 4
         go_wp2
         go_region
        go_wp2
        go_meet
        case rel=>exact ⟨_,_,_,_,_,[x,v - y+1],rfl,rfl,rfl,⟨(show shN d ls (k+1)=some (S++[[x,v - y+1]]) by rw [shN_succ HS.out,HSK.out,if_neg fun h=>absurd ((kskip s).1 h.1) (by rw [HZ.out];decide),HOU.out];rfl),by rw [HP.out.1];rfl,by rw [HP.out.2],.inr ⟨x,_,rfl,by omega,by omega,by omega⟩⟩,⟨nums_lit (k:=.i64) _ [x,v - y+1] 2 (0,0) rfl,bstep HB2.out (by go_grown)⟩⟩
      ·have t2:((b3:Int) != 2)=true:=by simpa using (show (b3:Int)≠2 by omega)
       have HNO:Hid (shN d ls ls.length=none):=by
        refine shN_stop (i:=k+1) ?_ (by rw [HK.out.2.1];omega)
        rw [shN_succ HS.out,HSK.out]
        rw [if_neg fun h=>absurd ((kskip s).1 h.1) (by rw [HZ.out];decide)]
        rw [outD_conv HZ.out fun h=>hb3 (by rw [← HC.out.1];exact h)]
        rfl
       clear HRN HSK hb3
       go_wp2
       go_region
       go_wp2
       exact bodyPost_ret (v:=.tuple #[.slice none 0 0,.int .i64 0,.int .i64 4]) (by simp [results,Tryz.results20,go_sem]) rfl ⟨ShR.bad (nE_none HF.out (HNO.out)) (by decide),bstep HB2r.out ⟨rfl,rfl,rfl,Nat.le_refl _,fun _ _=>rfl⟩⟩
     ·simp only [decide_true,show (decide ((2:Nat)=0))=false from by decide,show (decide ((2:Nat)=1))=false from by decide,show (decide ((2:Nat)=2))=true from by decide,show (decide ((2:Nat)=3))=false from by decide,show (decide ((2:Nat)=4))=false from by decide] at k0 k1 k2 k3 k4
      have hxr:1≤x∧x≤16:=by
       rcases layOk_cases HLI.out.1 with ⟨-,h,h1,-⟩|⟨-,h,h1,h2⟩|⟨-,h,h1,-⟩|⟨-,h,h1,-⟩|⟨-,h,h1,-⟩ <;> simp only [HZ.out] at h <;> first|exact h1|omega
      have HP:Hid (rP (s,x,y) dd=false∧psz (s,x,y) dd=0):=by
       show _∧_
       unfold rP psz
       simp [HZ.out]
      have hcs:(∃ u v,dd = [u,v]∧b3=2)∨b3≠2:=by
       by_cases h:b3=2
       ·have hl2:=HC.out.1
        rw [h] at hl2
        match dd,hl2 with
        | [u,v],_=>exact .inl ⟨u,v,rfl,h⟩
       ·exact .inr h
      rcases hcs with ⟨u,v,rfl,hb3⟩|hb3
      ·obtain ⟨qa,oa,rfl,u0⟩:=HC.out.2 0 (by omega)
       obtain ⟨qb,ob,e,v0⟩:=HC.out.2 1 (by omega)
       cases e
       simp only [List.getD_cons_zero,List.getD_cons_succ,Nat.add_zero] at u0 v0
       have ku:=cell_size u0
       have huv:(1≤u∧u≤64)∧1≤v∧v≤64:=by
        rcases HLI.out.2 with ⟨a,h,_⟩|⟨a,b,h,h1,h2⟩
        ·simp at h
        ·simp only [List.cons.injEq,and_true] at h
         obtain ⟨rfl,rfl⟩:=h
         exact ⟨h1,h2⟩
       have t2:((b3:Int) != 2)=false:=by rw [hb3];rfl
       have i0:(0:Int) < (b3:Int):=by omega
       have i1:(1:Int) < (b3:Int):=by omega
       clear hb3
       by_cases hy:v < x
       ·have HNO:Hid (shN d ls ls.length=none):=by
         refine shN_stop (i:=k+1) ?_ (by rw [HK.out.2.1];omega)
         rw [shN_succ HS.out,HSK.out]
         rw [if_neg fun h=>absurd ((kskip s).1 h.1) (by rw [HZ.out];decide)]
         rw [show outD (s,x,y) [u,v]=none by unfold outD;simp only [HZ.out];simp;omega]
         rfl
        clear HRN HSK
        go_wp2
        go_region
        go_wp2
        exact bodyPost_ret (v:=.tuple #[.slice none 0 0,.int .i64 0,.int .i64 4]) (by simp [results,Tryz.results20,go_sem]) rfl ⟨ShR.bad (nE_none HF.out (HNO.out)) (by decide),bstep HB2r.out ⟨rfl,rfl,rfl,Nat.le_refl _,fun _ _=>rfl⟩⟩
       have hy':x≤v:=by omega
       have hx0:(x==0)=false:=by simpa using (show x≠0 by omega)
       have HOU:Hid (outD (s,x,y) [u,v]=some [u,v / x]):=by
        show _=_
        unfold outD
        simp only [HZ.out]
        simp [Int.tdiv_eq_ediv_of_nonneg (show 0≤v by omega)]
        omega
       have HIN2:Hid (InOk [u,v / x]):=HLI.out.2.out HLI.out.1 HOU.out
       iterate 2
        go_wp2
        go_region
       go_wp2
       go_meet
       case rel=>exact ⟨_,_,_,_,_,[u,v / x],rfl,rfl,rfl,⟨(show shN d ls (k+1)=some (S++[[u,v / x]]) by rw [shN_succ HS.out,HSK.out,if_neg fun h=>absurd ((kskip s).1 h.1) (by rw [HZ.out];decide),HOU.out];rfl),by rw [HP.out.1,Bool.or_false],by rw [HP.out.2,Int.add_zero],HIN2.out⟩,⟨(nums_lit (k:=.i64) W2 [u,v / x] 2 (0,0) rfl).up ⟨rfl,rfl,rfl,Nat.le_refl _,fun _ _=>rfl⟩,bstep HB2.out (by go_grown)⟩⟩
      ·have t2:((b3:Int) != 2)=true:=by simpa using (show (b3:Int)≠2 by omega)
       have HNO:Hid (shN d ls ls.length=none):=by
        refine shN_stop (i:=k+1) ?_ (by rw [HK.out.2.1];omega)
        rw [shN_succ HS.out,HSK.out]
        rw [if_neg fun h=>absurd ((kskip s).1 h.1) (by rw [HZ.out];decide)]
        rw [outD_pool HZ.out fun h=>hb3 (by rw [← HC.out.1];exact h)]
        rfl
       clear HRN HSK hb3
       go_wp2
       go_region
       go_wp2
       exact bodyPost_ret (v:=.tuple #[.slice none 0 0,.int .i64 0,.int .i64 4]) (by simp [results,Tryz.results20,go_sem]) rfl ⟨ShR.bad (nE_none HF.out (HNO.out)) (by decide),bstep HB2r.out ⟨rfl,rfl,rfl,Nat.le_refl _,fun _ _=>rfl⟩⟩
     ·simp only [decide_true,show (decide ((3:Nat)=0))=false from by decide,show (decide ((3:Nat)=1))=false from by decide,show (decide ((3:Nat)=2))=false from by decide,show (decide ((3:Nat)=3))=true from by decide,show (decide ((3:Nat)=4))=false from by decide] at k0 k1 k2 k3 k4
      have HP:Hid (rP (s,x,y) dd=false∧psz (s,x,y) dd=0):=by
       show _∧_
       unfold rP psz
       simp [HZ.out]
      have HOU:Hid (outD (s,x,y) dd=some dd):=by
       show _=_
       unfold outD
       simp only [HZ.out]
       simp
      go_wp2
      go_meet
      case rel=>exact ⟨_,_,_,_,_,dd,rfl,rfl,rfl,⟨(show shN d ls (k+1)=some (S++[dd]) by rw [shN_succ HS.out,HSK.out,if_neg fun h=>absurd ((kskip s).1 h.1) (by rw [HZ.out];decide),HOU.out];rfl),by rw [HP.out.1,Bool.or_false],by rw [HP.out.2,Int.add_zero],HLI.out.2⟩,⟨HM.out.up HB2.out,HB2.out⟩⟩
     ·simp only [decide_true,show (decide ((4:Nat)=0))=false from by decide,show (decide ((4:Nat)=1))=false from by decide,show (decide ((4:Nat)=2))=false from by decide,show (decide ((4:Nat)=3))=false from by decide,show (decide ((4:Nat)=4))=true from by decide] at k0 k1 k2 k3 k4
      have HP:Hid (rP (s,x,y) dd=false∧psz (s,x,y) dd=0):=by
       show _∧_
       unfold rP psz
       simp [HZ.out]
      have HOU:Hid (outD (s,x,y) dd=some dd):=by
       show _=_
       unfold outD
       simp only [HZ.out]
       simp
      by_cases hk0:k=0
      ·have hk0':((k:Int)==0)=true:=by rw [hk0];rfl
       have HNO:Hid (shN d ls ls.length=none):=by
        refine shN_stop (i:=k+1) ?_ (by rw [HK.out.2.1];omega)
        rw [shN_succ HS.out,HSK.out]
        rw [if_pos ⟨(kskip s).2 HZ.out,fun h=>by have:=h.1;omega⟩]
       clear HRN HSK hk0
       go_wp2
       exact bodyPost_ret (v:=.tuple #[.slice none 0 0,.int .i64 0,.int .i64 4]) (by simp [results,Tryz.results20,go_sem]) rfl ⟨ShR.bad (nE_none HF.out (HNO.out)) (by decide),HB2r.out⟩
      have hk0':((k:Int)==0)=false:=by simpa using (show (k:Int)≠0 by omega)
      obtain ⟨j,hj⟩:∃ j,k=j+1:=⟨k - 1,by omega⟩
      have hj1:(k:Int) - 1=(j:Int):=by omega
      have hj2:(j:Int) < (n2:Int):=by omega
      obtain ⟨qp,op,ep,f0,_,_⟩:=(HK.out.2.up HB2r.out).2 j (by omega)
      cases ep
      obtain ⟨lp,elp⟩:∃ l,lyA ls j=l:=⟨_,rfl⟩
      obtain ⟨sp,xp,yp⟩:=lp
      rw [elp] at f0
      have kf:=cell_size f0
      obtain ⟨-,-,-,-,k4p⟩:=kts sp
      have HJ:Hid (SkipOk ls S k↔¬ kindI sp=4∧shA S j=dd):=by
       show _↔_
       unfold SkipOk
       rw [show k - 1=j by omega,elp,HED.out.1]
       exact ⟨fun h=>⟨fun h2=>h.2.1 ((kskip sp).2 h2),h.2.2⟩,fun h=>⟨by omega,fun h2=>h.1 ((kskip sp).1 h2),h.2⟩⟩
      by_cases hsp:kindI sp=4
      ·replace k4p:=k4p.trans (decide_eq_true hsp)
       have HNO:Hid (shN d ls ls.length=none):=by
        refine shN_stop (i:=k+1) ?_ (by rw [HK.out.2.1];omega)
        rw [shN_succ HS.out,HSK.out]
        rw [if_pos ⟨(kskip s).2 HZ.out,fun h=>(HJ.out.1 h).1 hsp⟩]
       clear HRN HSK hsp hj hk0
       go_wp2
       exact bodyPost_ret (v:=.tuple #[.slice none 0 0,.int .i64 0,.int .i64 4]) (by simp [results,Tryz.results20,go_sem]) rfl ⟨ShR.bad (nE_none HF.out (HNO.out)) (by decide),HB2r.out⟩
      replace k4p:=k4p.trans (decide_eq_false hsp)
      have hjs:(sl:Int) - 2=(j:Int):=by omega
      have hjs2:(j:Int) < (sl:Int):=by omega
      obtain ⟨qr,or',ar,br,dr,er,sr,mr⟩:=(HRD.out.up HB2.out).2 j (by have:=HSL.out.2;omega)
      cases er
      have ksr:=cell_size sr
      have cS:=rsame_any (.slice ar br dr) (.slice a3 b3 d3) (shA S j) dd (by have:=(shN_in HD.out.1 HD.out.2 (by rw [HK.out.2.1];omega) HS.out j (by omega)).smal.1;omega) W2 mr (HM.out.up HB2.out)
      obtain ⟨qs,eqs⟩:∃ q:Bool,decide (shA S j=dd)=q:=⟨_,rfl⟩
      rw [eqs] at cS
      have HQS:Hid (decide (shA S j=dd)=qs):=eqs
      have HSP:Hid (¬ kindI sp=4):=hsp
      clear eqs mr elp hj hk0 hsp
      go_wp2_with fail
      refine cS.mono ?_
      rintro e w3 ⟨rfl,nd,e3⟩
      have HB3:Hid (Below W2.heap.size W2 w3):=by rw [e3];exact below_drew (Below.refl _ _) nd
      clear e3 cS
      cases qs with
      | false=>
       have HNO:Hid (shN d ls ls.length=none):=by
        refine shN_stop (i:=k+1) ?_ (by rw [HK.out.2.1];omega)
        rw [shN_succ HS.out,HSK.out]
        rw [if_pos ⟨(kskip s).2 HZ.out,fun h=>of_decide_eq_false HQS.out (HJ.out.1 h).2⟩]
       clear HRN HSK
       go_wp2
       exact bodyPost_ret (v:=.tuple #[.slice none 0 0,.int .i64 0,.int .i64 4]) (by simp [results,Tryz.results20,go_sem]) rfl ⟨ShR.bad (nE_none HF.out (HNO.out)) (by decide),(bstep HB2r.out HB3.out)⟩
      | true=>
       go_wp2
       go_meet
       case rel=>exact ⟨_,_,_,_,_,dd,rfl,rfl,rfl,⟨(show shN d ls (k+1)=some (S++[dd]) by rw [shN_succ HS.out,HSK.out,if_neg fun h=>h.2 (HJ.out.2 ⟨HSP.out,of_decide_eq_true HQS.out⟩),HOU.out];rfl),by rw [HP.out.1,Bool.or_false],by rw [HP.out.2,Int.add_zero],HLI.out.2⟩,⟨HM.out.up (bstep HB2.out HB3.out),bstep HB2.out HB3.out⟩⟩
    case rest=>
     obtain ⟨g',a',pd,nd,cd,oo,rfl,rfl,rfl,HQ1,HQ2⟩:=hcut
     have HXc:Hid (wc.heap[w.heap.size]?=some (.cells #[.slice p n c,.slice (some ⟨q,o,none⟩) n2 c2] 32 (0,0))):=(HQ2.out.2.block _ (heap_lt HX.out)).trans HX.out
     have HOc:Hid (OwnS wc w.heap.size (.slice (some ⟨q3,o3,none⟩) sl cs) S∧Below w.heap.size w wc):=⟨HO.out.1.up HQ2.out.2,bstep HO.out.2 HQ2.out.2⟩
     have har2:0≤a'∧a'≤1053697:=by
      have:=psz_rng HLI.out.2 HLI.out.1
      have:=HQ1.out.2.2.1
      omega
     have hRN:=HRN.out oo
     rw [← HQ1.out.2.1,← HQ1.out.2.2.1] at hRN
     have HRN2:Hid (rG ls (S++[oo]) (k+1)=if 4096 < a' then (true,4097) else (g' || decide (4096 < prodI oo),a')):=hRN
     have cP:=rprod_any (.slice pd nd cd) oo HQ1.out.2.2.2.smal wc HQ2.out.1
     have HS2:Hid (shN d ls (k+1)=some (S++[oo])):=HQ1.out.1
     have F5:Hid (OwnK .i64 3 (wc.alloc (.cells #[] 3)) wc.heap.size (.slice (some ⟨wc.heap.size,0,none⟩) 0 0) []):=own_lit (k:=.i64) (e:=3) wc [] 0 rfl (by decide)
     have F6:Hid (Nums .i64 (wc.alloc (.cells #[] 3)) (.slice pd nd cd) oo):=HQ2.out.1.up (up_alloc wc _)
     have F7:Hid (([]:List Int).length+oo.length≤1073741824):=by show _≤_;have:=HQ1.out.2.2.2.smal.1;simp;omega
     have F8:Hid (wc.heap.size≤(wc.alloc (.cells #[] 3)).heap.size):=by show _≤_;simp
     have F9:Hid (Below wc.heap.size wc (wc.alloc (.cells #[] 3))):=up_alloc wc _
     have FP:Hid (∀ w2 pa na ca,OwnK .i64 3 w2 wc.heap.size (.slice pa na ca) oo→Below wc.heap.size wc w2→∃ vs,(w2.alloc (.cells #[.slice pa na ca] 23)).ownsRow w.heap.size 23 1 (.slice (some ⟨q3,o3,none⟩) sl cs) sl vs∧(w2.alloc (.cells #[.slice pa na ca] 23)).heap[w2.heap.size]?=some (.cells [.slice pa na ca].toArray 23 (0,0))∧(∀ y∈[Value.slice pa na ca],y.oneCell'=true)∧w.heap.size≤(w2.alloc (.cells #[.slice pa na ca] 23)).heap.size∧∀ v0 w0,w0.ownsRow w.heap.size 23 1 v0 (sl+1) (vs++[.slice pa na ca])→Only [23] (w2.alloc (.cells #[.slice pa na ca] 23)) w0→(∀ w',Below w.heap.size w' (w2.alloc (.cells #[.slice pa na ca] 23))→Below w.heap.size w' w0)→(OwnS w0 w.heap.size v0 (S++[oo])∧Below w.heap.size w w0)∧w0.heap[w.heap.size]?=some (.cells #[.slice p n c,.slice (some ⟨q,o,none⟩) n2 c2] 32 (0,0))):=fun w2 pa na ca h2 hb2=>shp_push HOc.out.1 HSL.out.1 HOc.out.2 ⟨_,_,rfl,by decide⟩ HXc.out h2 hb2
     have hk9:sl+1≤1073741825:=by have:=HSL.out.2;omega
     clear hRN HRN HSK HQ1 HQ2 HO HX HRD HM HXc HOc
     by_cases ha:4096 < a'
     ·cases g' with
      | true=>
       go_wp2_with (first|(at_builtin;refine wpList_appendK numT (by decide) rfl (.tmp 172) (.tmp 173) rfl wc.heap.size _ [] rfl F5.out _ oo rfl F6.out F7.out F8.out wc F9.out ?_;intro v2 w2 H2 B2;obtain ⟨pa,na,ca,rfl,_⟩:=H2.out.nums.lst;obtain ⟨vs,G5,G6,G7,G8,G9⟩:=FP.out w2 pa na ca H2.out B2;have H5:Hid _:=G5;have H6:Hid _:=G6;have H7:Hid _:=G7;have H8:Hid _:=G8;have H9:Hid _:=G9;clear G5 G6 G7 G8 G9 B2 H2)|(at_builtin;refine wpList_appG shT (by decide) (by decide) rfl (.tmp 171) (.tmp 175) rfl w.heap.size _ sl vs rfl H5.out _ [.slice pa na ca] rfl H6.out rfl H7.out hk9 H8.out ?_;intro v0 w0 H0 O0 B0))
       obtain ⟨hA,hX⟩:=H9.out v0 w0 H0.out O0.out B0.out
       have HA:Hid (OwnS w0 w.heap.size v0 (S++[oo])∧Below w.heap.size w w0):=hA
       have HXX:Hid (w0.heap[w.heap.size]?=some (.cells #[.slice p n c,.slice (some ⟨q,o,none⟩) n2 c2] 32 (0,0))):=hX
       clear hA hX H0 O0 B0 H5 H6 H7 H8 H9 FP F5 F6 F7 F8 F9
       go_wp2
       go_roundg (n2 - (k+1))
       case measure=>omega
       case rel=>exact ⟨k+1,S++[oo],true,4097,by omega,rfl,by first|rfl|simp,by first|rfl|simp,by first|rfl|simp,HA,HS2,by show _=_;rw [HRN2.out];rw [if_pos ha],HXX⟩
      | false=>
       obtain ⟨M,eM⟩:∃ M,prodI oo=M:=⟨_,rfl⟩
       rw [eM] at cP
       clear eM
       go_wp2_with fail
       refine cP.mono ?_
       rintro e w3 ⟨rfl,rfl⟩
       clear cP
       go_wp2_with (first|(at_builtin;refine wpList_appendK numT (by decide) rfl (.tmp 172) (.tmp 173) rfl w3.heap.size _ [] rfl F5.out _ oo rfl F6.out F7.out F8.out w3 F9.out ?_;intro v2 w2 H2 B2;obtain ⟨pa,na,ca,rfl,_⟩:=H2.out.nums.lst;obtain ⟨vs,G5,G6,G7,G8,G9⟩:=FP.out w2 pa na ca H2.out B2;have H5:Hid _:=G5;have H6:Hid _:=G6;have H7:Hid _:=G7;have H8:Hid _:=G8;have H9:Hid _:=G9;clear G5 G6 G7 G8 G9 B2 H2)|(at_builtin;refine wpList_appG shT (by decide) (by decide) rfl (.tmp 171) (.tmp 175) rfl w.heap.size _ sl vs rfl H5.out _ [.slice pa na ca] rfl H6.out rfl H7.out hk9 H8.out ?_;intro v0 w0 H0 O0 B0))
       obtain ⟨hA,hX⟩:=H9.out v0 w0 H0.out O0.out B0.out
       have HA:Hid (OwnS w0 w.heap.size v0 (S++[oo])∧Below w.heap.size w w0):=hA
       have HXX:Hid (w0.heap[w.heap.size]?=some (.cells #[.slice p n c,.slice (some ⟨q,o,none⟩) n2 c2] 32 (0,0))):=hX
       clear hA hX H0 O0 B0 H5 H6 H7 H8 H9 FP F5 F6 F7 F8 F9
       go_wp2
       go_roundg (n2 - (k+1))
       case measure=>omega
       case rel=>exact ⟨k+1,S++[oo],true,4097,by omega,rfl,by first|rfl|simp,by first|rfl|simp,by first|rfl|simp,HA,HS2,by show _=_;rw [HRN2.out];rw [if_pos ha],HXX⟩
     have ha':a'≤4096:=by omega
     cases g' with
     | true=>
      go_wp2_with (first|(at_builtin;refine wpList_appendK numT (by decide) rfl (.tmp 172) (.tmp 173) rfl wc.heap.size _ [] rfl F5.out _ oo rfl F6.out F7.out F8.out wc F9.out ?_;intro v2 w2 H2 B2;obtain ⟨pa,na,ca,rfl,_⟩:=H2.out.nums.lst;obtain ⟨vs,G5,G6,G7,G8,G9⟩:=FP.out w2 pa na ca H2.out B2;have H5:Hid _:=G5;have H6:Hid _:=G6;have H7:Hid _:=G7;have H8:Hid _:=G8;have H9:Hid _:=G9;clear G5 G6 G7 G8 G9 B2 H2)|(at_builtin;refine wpList_appG shT (by decide) (by decide) rfl (.tmp 171) (.tmp 175) rfl w.heap.size _ sl vs rfl H5.out _ [.slice pa na ca] rfl H6.out rfl H7.out hk9 H8.out ?_;intro v0 w0 H0 O0 B0))
      obtain ⟨hA,hX⟩:=H9.out v0 w0 H0.out O0.out B0.out
      have HA:Hid (OwnS w0 w.heap.size v0 (S++[oo])∧Below w.heap.size w w0):=hA
      have HXX:Hid (w0.heap[w.heap.size]?=some (.cells #[.slice p n c,.slice (some ⟨q,o,none⟩) n2 c2] 32 (0,0))):=hX
      clear hA hX H0 O0 B0 H5 H6 H7 H8 H9 FP F5 F6 F7 F8 F9
      go_wp2
      go_roundg (n2 - (k+1))
      case measure=>omega
      case rel=>exact ⟨k+1,S++[oo],true,a',by omega,rfl,by first|rfl|simp,by first|rfl|simp,by first|rfl|simp,HA,HS2,by show _=_;rw [HRN2.out];rw [if_neg (by omega)];rfl,HXX⟩
     | false=>
      obtain ⟨M,eM⟩:∃ M,prodI oo=M:=⟨_,rfl⟩
      have HEM:Hid (prodI oo=M):=eM
      rw [eM] at cP
      clear eM
      go_wp2_with fail
      refine cP.mono ?_
      rintro e w3 ⟨rfl,rfl⟩
      clear cP
      go_wp2_with (first|(at_builtin;refine wpList_appendK numT (by decide) rfl (.tmp 172) (.tmp 173) rfl w3.heap.size _ [] rfl F5.out _ oo rfl F6.out F7.out F8.out w3 F9.out ?_;intro v2 w2 H2 B2;obtain ⟨pa,na,ca,rfl,_⟩:=H2.out.nums.lst;obtain ⟨vs,G5,G6,G7,G8,G9⟩:=FP.out w2 pa na ca H2.out B2;have H5:Hid _:=G5;have H6:Hid _:=G6;have H7:Hid _:=G7;have H8:Hid _:=G8;have H9:Hid _:=G9;clear G5 G6 G7 G8 G9 B2 H2)|(at_builtin;refine wpList_appG shT (by decide) (by decide) rfl (.tmp 171) (.tmp 175) rfl w.heap.size _ sl vs rfl H5.out _ [.slice pa na ca] rfl H6.out rfl H7.out hk9 H8.out ?_;intro v0 w0 H0 O0 B0))
      obtain ⟨hA,hX⟩:=H9.out v0 w0 H0.out O0.out B0.out
      have HA:Hid (OwnS w0 w.heap.size v0 (S++[oo])∧Below w.heap.size w w0):=hA
      have HXX:Hid (w0.heap[w.heap.size]?=some (.cells #[.slice p n c,.slice (some ⟨q,o,none⟩) n2 c2] 32 (0,0))):=hX
      clear hA hX H0 O0 B0 H5 H6 H7 H8 H9 FP F5 F6 F7 F8 F9
      go_wp2
      go_roundg (n2 - (k+1))
      case measure=>omega
      case rel=>exact ⟨k+1,S++[oo],decide (4096 < M),a',by omega,rfl,by first|rfl|simp,by first|rfl|simp,by first|rfl|simp,HA,HS2,by show _=_;rw [HRN2.out];rw [if_neg (by omega),HEM.out];rfl,HXX⟩
   ·obtain rfl:k=n2:=by omega
    obtain ⟨hT1,hT2⟩:=rG_fin HF.out (show shN d ls ls.length=some S by rw [HK.out.2.1];exact HS.out)
    rw [HK.out.2.1,HR.out] at hT1 hT2
    simp only [] at hT1 hT2
    have HTT:Hid ((g || decide (4096 < prodI d))=tooM ls S∧(tooM ls S=false→a=cntP ls S k)):=⟨hT1,hT2⟩
    have HSF:Hid (shN d ls ls.length=some S):=by show _=_;rw [HK.out.2.1];exact HS.out
    clear hT1 hT2
    have cP:=rprod_any (.slice p n c) d HD.out.1.smal wr (HK.out.1.up HO.out.2)
    cases g with
    | true=>
     have HE:Hid (nE d ls=2):=nE_too HF.out HSF.out (by rw [← HTT.out.1];rfl)
     clear cP
     go_wp2
     exact bodyPost_ret (v:=.tuple #[.slice none 0 0,.int .i64 0,.int .i64 2]) (by simp [results,Tryz.results20,go_sem]) rfl ⟨ShR.bad HE.out (by decide),HO.out.2⟩
    | false=>
     obtain ⟨M,eM⟩:∃ M,prodI d=M:=⟨_,rfl⟩
     rw [eM] at cP HTT
     clear eM
     go_wp2_with fail
     refine cP.mono ?_
     rintro e w3 ⟨rfl,rfl⟩
     clear cP
     by_cases hM:4096 < M
     ·have HE:Hid (nE d ls=2):=nE_too HF.out HSF.out (by rw [← HTT.out.1,decide_eq_true hM];rfl)
      go_wp2
      exact bodyPost_ret (v:=.tuple #[.slice none 0 0,.int .i64 0,.int .i64 2]) (by simp [results,Tryz.results20,go_sem]) rfl ⟨ShR.bad HE.out (by decide),HO.out.2⟩
     ·have hM':M≤4096:=by omega
      have ht:tooM ls S=false:=by rw [← HTT.out.1,decide_eq_false hM];rfl
      obtain ⟨f1,f2,f3⟩:=nE_ok HF.out HSF.out ht
      have HE:Hid (nE d ls=0∧nS d ls=S∧nP d ls=a):=⟨f1,f2,by rw [f3,HTT.out.2 ht,HK.out.2.1]⟩
      clear ht f1 f2 f3
      go_wp2
      exact bodyPost_ret (v:=.tuple #[.slice ps sl cs,.int .i64 a,.int .i64 0]) (by simp [results,Tryz.results20,go_sem]) rfl ⟨⟨_,by rw [HE.out.1,HE.out.2.2],by rw [HE.out.2.1];exact HO.out.1⟩,HO.out.2⟩
end Go.Proofs.YtihjnbbhpojnpaaGreatDoor.Wd
