/- The code's start of a sweep. · The code's Sweep. · BackChain's tape: scales one behind the other; what a sweep over it hands back. · Tensors: what matm.Sum hands back. -/
import Derived.Test.YtaiigfhicaelkabGreatDoorW19
import Derived.Test.YtaiigfhicaelkabGreatDoorW15
import Derived.Test.YtaiigfhicaelkabGreatDoorW11
import Derived.Test.YtaiigfhicaelkabGreatDoorW10
set_option linter.unusedVariables false
set_option linter.unusedSimpArgs false
set_option maxHeartbeats 16000000
set_option maxRecDepth 16000
namespace Go.Proofs.YtaiigfhicaelkabGreatDoor.Wd
open Go.RowKit Fx
/-- A row that was just made: all its cells are one value. -/
theorem mk_cells {z:Array Value} {v:Value} (hz:0 < z.size) (h:∀ i,i < z.size→z[i]?=some v) (n:Nat):madeCells z n=(List.replicate n v).toArray:=by
 apply Array.toList_inj.1
 refine List.ext_getElem? fun j=>?_
 by_cases hj:j < n
 ·have e:=h (j % z.size) (Nat.mod_lt _ hz)
  unfold madeCells
  show _=(List.replicate n v)[j]?
  rw [Array.getElem?_toList,Array.getElem?_map,Array.getElem?_range,if_pos hj,List.getElem?_replicate,if_pos hj]
  simp only [Option.map_some]
  rw [getElem!_def,e]
 ·rw [List.getElem?_eq_none (by rw [Array.length_toList,size_madeCells];omega),List.getElem?_eq_none (by simp;omega)]
theorem mk_run {P:Program} {t e:TypeId} {z v:Value} {sz b:Nat} (ht:P.underlying t=some (.slice e)) (hi:(P.info? e).map (fun i=>(i.zero,i.size,i.bytes))=some (some z,sz,b)) (hb:b≤128) (hz:0 < z.cells.size) (h:∀ i,i < z.cells.size→z.cells[i]?=some v) (n:Nat) (hn:n≤100000) (W:World):
  (Instr.makeSlice t (.int .i64 (n:Int)) (.int .i64 (n:Int))).run P W = .ok (.slice (some ⟨W.heap.size,0,none⟩) n n) (W.alloc (.cells (List.replicate (n*sz) v).toArray e)):=by
 cases h0:P.info? e with
 | none=>rw [h0] at hi;cases hi
 | some i=>
  rw [h0] at hi
  simp only [Option.map_some,Option.some.injEq,Prod.mk.injEq] at hi
  obtain ⟨h1,h2,h3⟩:=hi
  have hm:b*n≤128*100000:=Nat.mul_le_mul hb hn
  have hb':(i.bytes:Int)*(n:Int)≤281474976710656:=by
   have q:((i.bytes*n:Nat):Int)≤281474976710656:=by rw [h3];omega
   rwa [Int.natCast_mul] at q
  have hr:=run_make (P:=P) W t e i z ht h0 h1 .i64 .i64 n n (by omega) (Int.le_refl _) hb' (by omega)
  simp only [Int.toNat_natCast] at hr
  rw [hr,h2,mk_cells hz h]
def MadeC (e:TypeId) (N K:Nat) (c:Value) (B:Nat) (v:Value) (W:World):Prop:=∃ b,v = .slice (some ⟨b,0,none⟩) N N∧W.heap[b]?=some (.cells (List.replicate K c).toArray e (0,0))∧B≤b
theorem MadeC.up {e:TypeId} {N K:Nat} {c:Value} {B:Nat} {v:Value} {W W':World} (h:MadeC e N K c B v W) (hB:Below W.heap.size W W'):MadeC e N K c B v W':=by
 obtain ⟨b,h1,h2,h3⟩:=h
 exact ⟨b,h1,(hB.block _ (heap_lt h2)).trans h2,h3⟩
/-- Noughts so far, nothing behind. -/
def nou (ns:List Nd) (i:Nat):Ten:=((ndN ns (i:Int)).D,List.replicate (ndN ns (i:Int)).X.length (0:Int))
def stK (ns:List Nd) (N k:Nat):List Ten:=(List.range N).map fun i=>if i < k then nou ns i else noT
theorem stK_len (ns:List Nd) (N k:Nat):(stK ns N k).length=N:=by simp [stK]
theorem stK_set (ns:List Nd) (N k:Nat) (hk:k < N):(stK ns N k).set k (nou ns k)=stK ns N (k+1):=by
 refine List.ext_getElem? fun j=>?_
 rw [List.getElem?_set]
 unfold stK
 by_cases hj:j < N
 ·simp only [List.getElem?_map,List.getElem?_range hj,Option.map_some,List.length_map,List.length_range]
  by_cases e:k=j
  ·subst e
   rw [if_pos rfl,if_pos hk,if_pos (by omega)]
  ·rw [if_neg e]
   by_cases h:j < k
   ·rw [if_pos h,if_pos (by omega)]
   ·rw [if_neg h,if_neg (by omega)]
 ·rw [if_neg (by omega),List.getElem?_eq_none (by simp;omega),List.getElem?_eq_none (by simp;omega)]
theorem stK_full (ns:List Nd) (root:Nat):stK ns (root+1) (root+1)=(List.range (root+1)).map (nou ns):=by
 unfold stK
 refine List.map_congr_left fun i hi=>?_
 rw [if_pos (List.mem_range.1 hi)]
theorem stK_at (ns:List Nd) (N k i:Nat) (hi:i < N) (hk:i < k):(stK ns N k)[i]?=some (nou ns i):=by
 unfold stK
 rw [List.getElem?_map,List.getElem?_range hi,Option.map_some,if_pos hk]
theorem SwC.fresh {W:World} {B sb tb gb vb N:Nat} (ns:List Nd) (hs:W.heap[sb]?=some (.cells #[.pointer (some ⟨tb,0,none⟩),.slice (some ⟨gb,0,none⟩) N N,.slice (some ⟨vb,0,none⟩) N N] 70 (0,0))) (hg:W.heap[gb]?=some (.cells (List.replicate (N*2) (.slice none 0 0)).toArray 32 (0,0))) (hv:W.heap[vb]?=some (.cells (List.replicate N (.bool false)).toArray 4 (0,0))) (bs:B≤sb∧B≤gb∧B≤vb):SwC W B sb tb gb vb N (stK ns N 0) (List.replicate N false):=by
 refine ⟨hs,⟨_,hg,by simp [stK],fun i t hi=>?_⟩,by rw [hv];simp,bs,stK_len _ _ _,by simp⟩
 have hiN:i < N:=by have:=(List.getElem?_eq_some_iff.1 hi).1;rw [stK_len] at this;exact this
 have et:t=noT:=by
  unfold stK at hi
  rw [List.getElem?_map,List.getElem?_range hiN] at hi
  simpa using hi.symm
 subst et
 exact ⟨_,_,by rw [List.getElem?_replicate,if_pos (by omega)],by rw [List.getElem?_replicate,if_pos (by omega)],OwnK.nil _ _ _ _,OwnK.nil _ _ _ _⟩
/-- The newest gradient's numbers lie in a block of their own. -/
def Lone (W:World) (gb k:Nat):Prop:=∀ i u v,i+1 < k→W.cell? ⟨gb,i*2+1,none⟩=some u→W.cell? ⟨gb,(k - 1)*2+1,none⟩=some v→∀ b,v.ownBlock=some b→u.ownBlock≠some b
/-- One for the root. -/
theorem SwC.one {W:World} {B sb tb gb vb root:Nat} {ns:List Nd} {gv:List Bool} (h:SwC W B sb tb gb vb (root+1) (stK ns (root+1) (root+1)) gv) (hl:Lone W gb (root+1)) (h1:(ndN ns (root:Int)).X.length=1):
  ∃ q c,W.cell? ⟨gb,root*2+1,none⟩=some (.slice (some ⟨q,0,none⟩) 1 c)∧(∃ v,W.cell? ⟨q,0,none⟩=some v)∧W.frozen? ⟨q,0,none⟩=false∧B≤q∧SwC (W.setCell ⟨q,0,none⟩ (.int .i64 4294967296)) B sb tb gb vb (root+1) ((stK ns (root+1) (root+1)).set root ((ndN ns (root:Int)).D,[4294967296])) gv:=by
 obtain ⟨xs,hx,hk⟩:=h.hg
 obtain ⟨s,u,a1,a2,a3,a4⟩:=hk.2 root _ (stK_at ns (root+1) (root+1) root (by omega) (by omega))
 have e1:(nou ns root).2 = [0]:=by unfold nou;rw [h1];rfl
 rw [e1] at a4
 obtain ⟨q,c,rfl,hq⟩:=a4.at (by simp)
 have hc:=box_cell (i:=root*2+1) hx (by simpa using a2)
 obtain ⟨c1,c2⟩:=a4.cell rfl 0 (by simp)
 obtain ⟨cs,fz,hob⟩:=a4.obj
 have hfz:fz=(0,0):=by
  rcases a4.2 with ⟨hh,_⟩|⟨g',cap,cur,hh,_,h3,_⟩
  ·cases hh
  ·cases hh
   rw [hob] at h3
   cases h3
   rfl
 subst hfz
 have st:Stay q W (W.setCell ⟨q,0,none⟩ (.int .i64 4294967296)):=(Stay.refl q W).set 0 _
 refine ⟨q,c,hc.1,⟨_,c1⟩,c2,hq,?_⟩
 have nq:∀ {b:Nat} {cs:Array Value} {e:TypeId},W.heap[b]?=some (Obj.cells cs e (0,0))→e≠22→(W.setCell ⟨q,0,none⟩ (.int .i64 4294967296)).heap[b]?=W.heap[b]?:=fun hb he=>heap_set _ _ _ _ _ (kind_ne hb hob he)
 refine ⟨(nq h.hs (by decide)).trans h.hs,⟨xs,(nq hx (by decide)).trans hx,by simp [hk.1],fun i t hi=>?_⟩,(nq h.hv (by decide)).trans h.hv,h.bs,by rw [List.length_set];exact h.ll,h.lv⟩
 rw [List.getElem?_set] at hi
 by_cases e:root=i
 ·subst e
  rw [if_pos rfl,if_pos (by rw [stK_len];omega)] at hi
  cases hi
  refine ⟨s,_,a1,a2,a3.stay st (a3.off_type hob (by decide)),?_⟩
  exact a4.store rfl 0 4294967296
 ·rw [if_neg e] at hi
  obtain ⟨s',u',b1,b2,b3,b4⟩:=hk.2 i t hi
  have hiN:i < root+1:=by have:=(List.getElem?_eq_some_iff.1 hi).1;rw [stK_len] at this;exact this
  refine ⟨s',u',b1,b2,b3.stay st (b3.off_type hob (by decide)),b4.stay st ?_⟩
  intro ad n' c' eu hbq
  subst eu
  have:=hl i _ _ (by omega) (box_cell (i:=i*2+1) hx (by simpa using b2)).1 (by simpa using hc.1) q rfl
  rcases b4.2 with ⟨hh,_⟩|⟨g',cap,cur,hh,_⟩
  ·cases hh
  ·cases hh
   simp only [] at hbq
   subst hbq
   exact this rfl
theorem sw0_eq (ns:List Nd) (root:Nat):(sw0 ns root).1=(stK ns (root+1) (root+1)).set root ((ndN ns (root:Int)).D,[4294967296])∧(sw0 ns root).2=(List.replicate (root+1) false).set root true:=by
 rw [stK_full]
 exact ⟨rfl,rfl⟩
theorem cstart_any (B0 tb:Nat) (ns:List Nd) (hG:NodesG ns) (root:Nat) (hr:root < ns.length) (hl:ns.length≤512) (h1:(ndN ns (root:Int)).X.length=1) (w:World) (hT:TapC w B0 tb ns):
  Calls Tryz.prog 26 #[.pointer (some ⟨tb,0,none⟩),.int .i64 (root:Int)] w fun e w'=>∃ sb gb vb,e = .returned (.tuple #[.pointer (some ⟨sb,0,none⟩),.int .i64 0])∧SwC w' w.heap.size sb tb gb vb (root+1) (sw0 ns root).1 (sw0 ns root).2∧Below w.heap.size w w':=by
 have eN:((root:Int)+1)=((root+1:Nat):Int):=by omega
 obtain ⟨N,hN⟩:∃ N,root+1=N:=⟨_,rfl⟩
 rw [hN] at eN
 have hN5:N≤512:=by omega
 have hN5':(N:Int)≤512:=by omega
 have hm1:∀ W,(Instr.makeSlice 35 (.int .i64 (N:Int)) (.int .i64 (N:Int))).run Tryz.prog W = .ok (.slice (some ⟨W.heap.size,0,none⟩) N N) (W.alloc (.cells (List.replicate (N*2) (.slice none 0 0)).toArray 32)):=fun W=>mk_run (z:=.agg #[.slice none 0 0,.slice none 0 0]) (b:=48) Tryz.underlying35 (by kernel_rfl) (by decide) (by decide) (fun i hi=>by
  have hi2:i < 2:=hi
  match i,hi2 with
  | 0,_=>rfl
  | 1,_=>rfl) N (by omega) W
 have hm2:∀ W,(Instr.makeSlice 68 (.int .i64 (N:Int)) (.int .i64 (N:Int))).run Tryz.prog W = .ok (.slice (some ⟨W.heap.size,0,none⟩) N N) (W.alloc (.cells (List.replicate N (.bool false)).toArray 4)):=fun W=>by
  have:=mk_run (P:=Tryz.prog) (z:=.bool false) (v:=.bool false) (sz:=1) (b:=1) Tryz.underlying68 (by kernel_rfl) (by decide) (by decide) (fun i hi=>by
   have hi2:i < 1:=hi
   match i,hi2 with
   | 0,_=>rfl) N (by omega) W
  rw [Nat.mul_one] at this
  exact this
 have cV:Hid (∀ (i:Nat) W,i < N→Below w.heap.size w W→Calls Tryz.prog 25 #[.pointer (some ⟨tb,0,none⟩),.int .i64 (i:Int)] W fun e w'=>∃ v,e = .returned (.tuple #[v,.bool true])∧TRes w' W.heap.size v (ndN ns (i:Int)).D (ndN ns (i:Int)).X∧Below W.heap.size W w'):=fun i W hi hW=>cvalue_any B0 tb ns hG i _ (ndN_get (by omega)) W (hT.up hW)
 have cN:Hid (∀ (i:Nat) W v,i < N→Nums .i64 W v (ndN ns (i:Int)).D→Calls Tryz.prog 57 #[v,.int .i64 0] W fun e w'=>∃ v',e = .returned (.tuple #[v',.int .i64 0])∧TRes w' W.heap.size v' (nou ns i).1 (nou ns i).2∧Below W.heap.size W w'):=fun i W v hi hn=>by
  have gi:TnsG (ndN ns (i:Int)).D (ndN ns (i:Int)).X:=hG _ (nd_mem (ndN_get (by omega)))
  have:=tnew_any v _ gi.2.1 0 W hn
  rw [show newE (ndN ns (i:Int)).D=0 from if_pos gi.1.1,show newD (ndN ns (i:Int)).D=(nou ns i).1 from if_pos gi.1.1,show newV (ndN ns (i:Int)).D 0=(nou ns i).2 from (if_pos gi.1.1).trans (by unfold nou;rw [gi.1.2])] at this
  exact this
 have H1:Hid ((ndN ns (root:Int)).X.length=1∧root+1=N):=⟨h1,hN⟩
 have e0:=sw0_eq ns root
 rw [e0.1,e0.2,hN]
 have hrN:root < N:=by omega
 have hrN':(root:Int) < (N:Int):=by omega
 haveI:Nonempty World:=⟨w⟩
 clear e0 h1 hT hG hr hl hN
 go_enter Tryz.func26,Tryz.ntmps26
 go_wp2_with fail
 refine rel [⟨3,15,MadeC 32 N (N*2) (.slice none 0 0) w.heap.size⟩,⟨6,18,MadeC 4 N N (.bool false) w.heap.size⟩] 7 68 (by kernel_rfl) rfl rfl (by kernel_rfl) (by rfl) ?_ ?_
 ·intro e he v W W' h hb
  simp only [List.mem_cons,List.not_mem_nil,or_false] at he
  rcases he with rfl|rfl
  ·exact MadeC.up h hb
  ·exact MadeC.up h hb
 apply Exists.intro
 refine ⟨fun x=>?_,?_,?_⟩
 ·simp only [List.take_succ_cons,List.take_zero]
  iterate 3
   refine relQuiet rfl rfl ?_
   apply Exists.intro
   refine ⟨fun F hF hf K hK=>?_,?_⟩
   ·have hFc:=hF.cell
    have hFf:=hF.frozen
    go_big_quiet_op
    first|exact hK|(apply Exists.intro;refine ⟨fun _=>?_,?_⟩;(· fail);exact hK)
   (try simp only [Act.put,List.setIfInBounds_toArray,List.set_cons_zero,List.set_cons_succ])
  refine relTold rfl rfl ?_ ?_
  ·intro F hF hf d
   have hFc:=hF.cell
   have hFf:=hF.frozen
   simp [yieldsR,yieldsUpon,go_sem,hm1]
   exact ⟨⟨(F d).heap.size,rfl,heap_alloc_new _ _,(hF.below d).size⟩,up_alloc _ _⟩
  iterate 2
   (try simp only [Act.put,List.setIfInBounds_toArray,List.set_cons_zero,List.set_cons_succ])
   refine relQuiet rfl rfl ?_
   apply Exists.intro
   refine ⟨fun F hF hf K hK=>?_,?_⟩
   ·have hFc:=hF.cell
    have hFf:=hF.frozen
    go_big_quiet_op
    first|exact hK|(apply Exists.intro;refine ⟨fun _=>?_,?_⟩;(· fail);exact hK)
  (try simp only [Act.put,List.setIfInBounds_toArray,List.set_cons_zero,List.set_cons_succ])
  refine relTold rfl rfl ?_ ?_
  ·intro F hF hf d
   have hFc:=hF.cell
   have hFf:=hF.frozen
   simp [yieldsR,yieldsUpon,go_sem,hm2]
   exact ⟨⟨(F d).heap.size,rfl,heap_alloc_new _ _,(hF.below d).size⟩,up_alloc _ _⟩
  (try simp only [Act.put,List.setIfInBounds_toArray,List.set_cons_zero,List.set_cons_succ])
  refine relEnd ?_
  exact rfl
 ·intro x
  simp only [putsK,List.foldl_cons,List.foldl_nil,Act.put,List.setIfInBounds_toArray,List.set_cons_zero,List.set_cons_succ]
 intro z1 xs hBz hf
 simp only [List.drop_succ_cons,List.drop_zero]
 obtain ⟨gb,ea,hga,hgb⟩:=hf _ List.mem_cons_self
 obtain ⟨vb,eb,hva,hvb⟩:=hf _ (List.mem_cons_of_mem _ List.mem_cons_self)
 simp only [] at ea eb
 simp only [ea,eb]
 have HG0:Hid ((z1.heap[gb]?=some (.cells (List.replicate (N*2) (.slice none 0 0)).toArray 32 (0,0))∧z1.heap[vb]?=some (.cells (List.replicate N (.bool false)).toArray 4 (0,0)))∧w.heap.size≤gb∧w.heap.size≤vb∧Below w.heap.size w z1):=⟨⟨hga,hva⟩,hgb,hvb,hBz⟩
 clear hf ea eb hga hva hgb hvb hBz hm1 hm2
 go_wp2_with fail
 generalize hW0:World.alloc _ _=W0
 obtain ⟨sb,esb⟩:∃ b,z1.heap.size=b:=⟨_,rfl⟩
 have hsb:W0.heap[z1.heap.size]?=some (.cells #[.pointer (some ⟨tb,0,none⟩),.slice (some ⟨gb,0,none⟩) N N,.slice (some ⟨vb,0,none⟩) N N] 70 (0,0)):=by rw [← hW0];exact heap_alloc_new _ _
 have B0_:Below z1.heap.size z1 W0:=by rw [← hW0];exact up_alloc _ _
 have HS0:Hid (SwC W0 w.heap.size sb tb gb vb N (stK ns N 0) (List.replicate N false)):=by
  rw [esb] at hsb
  have q:=HG0.out
  exact SwC.fresh ns hsb ((B0_.block _ (heap_lt q.1.1)).trans q.1.1) ((B0_.block _ (heap_lt q.1.2)).trans q.1.2) ⟨by rw [← esb];exact q.2.2.2.size,q.2.1,q.2.2.1⟩
 have HB0:Hid (Below w.heap.size w W0):=bstep HG0.out.2.2.2 B0_
 rw [esb]
 clear hW0 hsb B0_ HG0 esb
 go_loopg [26] N (fun gg i wr=>∃ (k:Nat),k≤N∧gg=N - k∧i = .int .i64 (k:Int)∧Hid (SwC wr w.heap.size sb tb gb vb N (stK ns N k) (List.replicate N false))∧Hid (Below w.heap.size w wr∧Lone wr gb k))
 case atStart=>exact ⟨0,by omega,by omega,by first|rfl|simp,HS0.out,HB0.out,fun i u v hi=>absurd hi (by omega)⟩
 case round=>
  obtain ⟨k,hk,hgk,rfl,HS,HBk⟩:=hrel
  obtain ⟨R1,hR1⟩:∃ R1:World,R1=wr:=⟨_,rfl⟩
  subst hR1
  by_cases hkn:k < N
  ·have hk':(k:Int) < (N:Int):=by omega
   go_wp2_with fail
   refine (cV.out k R1 hkn HBk.out.1).mono ?_
   rintro e w1 ⟨v1,rfl,⟨s1,t1,rfl,hs1,ht1⟩,hB1⟩
   obtain ⟨p1,n1,c1,rfl⟩:=hs1.form_
   obtain ⟨q1,m1,e1,rfl⟩:=ht1.form_
   have HN1:Hid (Nums .i64 w1 (.slice p1 n1 c1) (ndN ns (k:Int)).D∧Below R1.heap.size R1 w1):=⟨hs1.nums,hB1⟩
   clear hs1 ht1 hB1
   go_wp2_with fail
   generalize hW2:World.alloc _ _=W2
   have B2:Below w1.heap.size w1 W2:=by rw [← hW2];exact up_alloc _ _
   have HB2:Hid (Below R1.heap.size R1 W2):=bstep HN1.out.2 B2
   have HN2:Hid (Nums .i64 W2 (.slice p1 n1 c1) (ndN ns (k:Int)).D):=HN1.out.1.up B2
   clear hW2 B2 HN1
   refine (cN.out k W2 _ hkn HN2.out).mono ?_
   rintro e w3 ⟨v3,rfl,⟨s3,t3,rfl,hs3,ht3⟩,hB3⟩
   obtain ⟨p3,n3,c3,rfl⟩:=hs3.form_
   obtain ⟨q3,m3,e3,rfl⟩:=ht3.form_
   have hbl:∀ j,(Value.slice q3 m3 e3).ownBlock=some j→R1.heap.size≤j:=fun j hj=>Nat.le_trans HB2.out.size (ht3.block j hj)
   have HB3:Hid (Below R1.heap.size R1 w3):=bstep HB2.out hB3
   have HR3:Hid (OwnK .i64 3 w3 R1.heap.size (.slice p3 n3 c3) (nou ns k).1∧OwnK .i64 22 w3 R1.heap.size (.slice q3 m3 e3) (nou ns k).2∧∀ j,(Value.slice q3 m3 e3).ownBlock=some j→R1.heap.size≤j):=⟨hs3.low HB2.out.size,ht3.low HB2.out.size,hbl⟩
   clear hs3 ht3 hB3 HB2 HN2 hbl
   go_wp2_with fail
   generalize hW4:World.alloc _ _=W4
   have B4:Below w3.heap.size w3 W4:=by rw [← hW4];exact up_alloc _ _
   have X4:Cel W4 w3.heap.size (.slice p3 n3 c3) (.slice q3 m3 e3):=(celW hW4 (by simp [go_sem])).out
   have HB4:Hid (Below R1.heap.size R1 W4):=bstep HB3.out B4
   have HR4:Hid (OwnK .i64 3 W4 R1.heap.size (.slice p3 n3 c3) (nou ns k).1∧OwnK .i64 22 W4 R1.heap.size (.slice q3 m3 e3) (nou ns k).2∧∀ j,(Value.slice q3 m3 e3).ownBlock=some j→R1.heap.size≤j):=⟨HR3.out.1.up B4,HR3.out.2.1.up B4,HR3.out.2.2⟩
   have hS4:=HS.out.up HB4.out
   obtain ⟨b0,b1,b2⟩:=hS4.tape
   obtain ⟨xs9,hx9,hk9⟩:=hS4.hg
   have hl9:=hk9.1
   have hN9:=hS4.ll
   obtain ⟨va,i0,i1⟩:∃ va,W4.cell? ⟨gb,k*2,none⟩=some va∧W4.frozen? ⟨gb,k*2,none⟩=false:=⟨_,box_cell hx9 (by rw [List.getElem?_toArray];exact List.getElem?_eq_getElem (by omega))⟩
   obtain ⟨vc,i2,i3⟩:∃ va,W4.cell? ⟨gb,k*2+1,none⟩=some va∧W4.frozen? ⟨gb,k*2+1,none⟩=false:=⟨_,box_cell hx9 (by rw [List.getElem?_toArray];exact List.getElem?_eq_getElem (by omega))⟩
   have kb:=cell_lt b1
   have kg:=cell_lt i0
   obtain ⟨y0,y1,_,_⟩:=X4
   have ky:=cell_lt y0
   have hbb:=hS4.bs
   have hwR:w.heap.size≤R1.heap.size:=HBk.out.1.size
   have HZ:Hid (SwC ((W4.setCell ⟨gb,k*2,none⟩ (.slice p3 n3 c3)).setCell ⟨gb,k*2+1,none⟩ (.slice q3 m3 e3)) w.heap.size sb tb gb vb N (stK ns N (k+1)) (List.replicate N false)∧Below w.heap.size w ((W4.setCell ⟨gb,k*2,none⟩ (.slice p3 n3 c3)).setCell ⟨gb,k*2+1,none⟩ (.slice q3 m3 e3))∧Lone ((W4.setCell ⟨gb,k*2,none⟩ (.slice p3 n3 c3)).setCell ⟨gb,k*2+1,none⟩ (.slice q3 m3 e3)) gb (k+1)):=by
    have h:=hS4.set hkn (HR4.out.1.low hwR) (HR4.out.2.1.low hwR)
    have hsz:w.heap.size≤gb:=hbb.2.1
    refine ⟨?_,((bstep HBk.out.1 HB4.out).setCell (p:=⟨gb,k*2,none⟩) hsz _).setCell (p:=⟨gb,k*2+1,none⟩) hsz _,fun i u v hi hu hv b hb hub=>?_⟩
    ·rw [← stK_set ns N k hkn]
     exact h
    ·have x1:=heap_setat (o:=k*2) (x:=.slice p3 n3 c3) hx9
     have x2:=heap_setat (o:=k*2+1) (x:=.slice q3 m3 e3) x1
     have ev:v = .slice q3 m3 e3:=by
      have:=(box_cell (i:=k*2+1) (v:=.slice q3 m3 e3) x2 (by rw [Array.getElem?_setIfInBounds,if_pos rfl,if_pos (by simp only [Array.size_setIfInBounds,List.size_toArray];omega)])).1
      rw [show (k+1 - 1)*2+1=k*2+1 by omega] at hv
      rw [this] at hv
      exact (Option.some.inj hv).symm
     have h9:=HR4.out.2.2 b (by rw [← ev];exact hb)
     obtain ⟨s',u',a1,a2,a3,a4⟩:=(HS.out.hg.choose_spec.2).2 i _ (stK_at ns N k i (by omega) (by omega))
     have hu2:R1.cell? ⟨gb,i*2+1,none⟩=some u':=(box_cell (i:=i*2+1) HS.out.hg.choose_spec.1 (by simpa using a2)).1
     have hu3:((W4.setCell ⟨gb,k*2,none⟩ (.slice p3 n3 c3)).setCell ⟨gb,k*2+1,none⟩ (.slice q3 m3 e3)).cell? ⟨gb,i*2+1,none⟩=W4.cell? ⟨gb,i*2+1,none⟩:=by
      have e1:xs9.length=N*2:=by rw [hl9,hN9]
      rw [(box_cell (i:=i*2+1) (v:=xs9[i*2+1]'(by omega)) x2 (by
       have n1:k*2≠i*2+1:=by omega
       have n2:k*2+1≠i*2+1:=by omega
       rw [Array.getElem?_setIfInBounds,if_neg n2,Array.getElem?_setIfInBounds,if_neg n1,List.getElem?_toArray]
       exact List.getElem?_eq_getElem (by omega))).1,(box_cell (i:=i*2+1) (v:=xs9[i*2+1]'(by omega)) hx9 (by rw [List.getElem?_toArray];exact List.getElem?_eq_getElem (by omega))).1]
     have eu:u'=u:=by
      rw [hu3,cell_low hu2 HB4.out] at hu
      exact Option.some.inj hu
     rw [← eu] at hub
     have:=(World.ownsRow.lt a4 b hub).2
     omega
   clear hS4 hx9 hk9 hl9 hN9 hbb hwR hW4 B4 HB3 HR3
   go_region
   generalize hZ:World.drew _=Z
   have HZ2:Hid (SwC Z w.heap.size sb tb gb vb N (stK ns N (k+1)) (List.replicate N false)):=by
    have d:∀ {U:World},U.drew=Z→Below U.heap.size U Z:=fun h=>by rw [← h];exact below_drew1 (Below.refl _ _)
    exact HZ.out.1.up (d hZ)
   have HZ3:Hid (Below w.heap.size w Z∧Lone Z gb (k+1)):=by
    have d:∀ {U:World},U.drew=Z→Below U.heap.size U Z:=fun h=>by rw [← h];exact below_drew1 (Below.refl _ _)
    refine ⟨bstep HZ.out.2.1 (d hZ),fun i u v hi hu hv=>?_⟩
    rw [← hZ] at hu hv
    exact HZ.out.2.2 i u v hi hu hv
   clear hZ HZ
   go_wp2
   go_roundg (N - (k+1))
   case measure=>omega
   case rel=>exact ⟨k+1,by omega,rfl,by first|rfl|simp,HZ2,HZ3⟩
  ·obtain rfl:k=N:=by omega
   have hone:=H1.out.1
   obtain rfl:=H1.out.2
   obtain ⟨q,c,d0,⟨d1v,d1⟩,d2,d3,hSo⟩:=HS.out.one HBk.out.2 hone
   obtain ⟨b0,b1,b2⟩:=HS.out.tape
   have kb:=cell_lt b1
   have kd:=cell_lt d0
   have kq:=cell_lt d1
   have st:Stay q R1 (R1.setCell ⟨q,0,none⟩ (.int .i64 4294967296)):=(Stay.refl q R1).set 0 _
   obtain ⟨n0,n1,n2⟩:=hSo.tape
   obtain ⟨v0,v1⟩:=hSo.flag (i:=root) (by omega)
   have kn:=cell_lt n0
   have kv:=cell_lt v0
   have hvb:=hSo.bs.2.2
   have HF:Hid (SwC ((R1.setCell ⟨q,0,none⟩ (.int .i64 4294967296)).setCell ⟨vb,root,none⟩ (.bool true)) w.heap.size sb tb gb vb (root+1) ((stK ns (root+1) (root+1)).set root ((ndN ns (root:Int)).D,[4294967296])) ((List.replicate (root+1) false).set root true)∧Below w.heap.size w ((R1.setCell ⟨q,0,none⟩ (.int .i64 4294967296)).setCell ⟨vb,root,none⟩ (.bool true))):=⟨hSo.mark root,(HBk.out.1.setCell (p:=⟨q,0,none⟩) d3 _).setCell (p:=⟨vb,root,none⟩) hvb _⟩
   clear hSo st HS HBk hone d3 hvb eN H1
   go_wp2
   exact bodyPost_ret (v:=.tuple #[.pointer (some ⟨sb,0,none⟩),.int .i64 0]) (by simp [results,Tryz.results26,go_sem]) rfl ⟨sb,gb,vb,rfl,HF.out⟩
theorem SwC.own {W:World} {B sb tb gb vb N:Nat} {l:List Ten} {gv:List Bool} (h:SwC W B sb tb gb vb N l gv) (hN:N≤1000):OwnTs W B (.slice (some ⟨gb,0,none⟩) N N) l:=by
 obtain ⟨xs,hx,hk⟩:=h.hg
 have e:=h.ll
 refine ⟨xs,?_,hk.1,fun i t hi=>?_⟩
 ·rw [e]
  refine ⟨by rw [hk.1,e],.inr ⟨gb,N,xs.toArray,rfl,h.bs.2.1,hx,Nat.le_refl _,by unfold maxLen;omega,by simp [hk.1,e],by rw [List.take_of_length_le (by simp [hk.1,e])]⟩⟩
 ·obtain ⟨s,u,a1,a2,a3,a4⟩:=hk.2 i t hi
  refine ⟨s,u,?_,a3,a4⟩
  refine List.ext_getElem? fun j=>?_
  rw [List.getElem?_take]
  match j with
  | 0=>rw [if_pos (by omega),List.getElem?_drop];exact a1
  | 1=>rw [if_pos (by omega),List.getElem?_drop];exact a2
  | j+2=>rw [if_neg (by omega)];rfl
theorem csweep_any (B tb:Nat) (ns:List Nd) (hG:NodesG ns) (hV:NodesV ns) (hNK:NodesK ns) (hl:ns.length≤512) (root:Int) (w:World) (hT:TapC w B tb ns) (hTz:Hid (Tz w)):
  Calls Tryz.prog 10 #[.pointer (some ⟨tb,0,none⟩),.int .i64 root] w fun e w'=>∃ v,e = .returned (.tuple #[v,.int .i64 (swE ns root)])∧OwnTs w' w.heap.size v (swL ns root)∧Below w.heap.size w w':=by
 by_cases hn:0≤root∧root < (ns.length:Int)
 rotate_left
 ·have eE:swE ns root=1:=if_neg hn
  have eL:swL ns root = []:=if_neg (by rw [eE];omega)
  rw [eE,eL]
  have cV:Hid (Calls Tryz.prog 25 #[.pointer (some ⟨tb,0,none⟩),.int .i64 root] w fun e w'=>e = .returned (.tuple #[.agg #[.slice none 0 0,.slice none 0 0],.bool false])∧Below w.heap.size w w'):=cvno_any B tb ns root (by omega) w hT
  clear hT hTz hn eE eL hG hV hNK hl
  go_enter Tryz.func10,Tryz.ntmps10
  go_wp2_with fail
  refine cV.out.mono ?_
  rintro e w1 ⟨rfl,hB1⟩
  clear cV
  go_wp2
  exact bodyPost_ret (v:=.tuple #[.slice none 0 0,.int .i64 1]) (by simp [results,Tryz.results10,go_sem]) rfl ⟨_,rfl,OwnTs.nil _ _,bstep hB1 (up_alloc _ _)⟩
 obtain ⟨r,rfl⟩:∃ r:Nat,root=(r:Int):=⟨root.toNat,by omega⟩
 have hrl:r < ns.length:=by omega
 have cV:Hid (Calls Tryz.prog 25 #[.pointer (some ⟨tb,0,none⟩),.int .i64 (r:Int)] w fun e w'=>∃ v,e = .returned (.tuple #[v,.bool true])∧TRes w' w.heap.size v (ndN ns (r:Int)).D (ndN ns (r:Int)).X∧Below w.heap.size w w'):=cvalue_any B tb ns hG r _ (ndN_get hrl) w hT
 obtain ⟨L,eL⟩:∃ L,(ndN ns (r:Int)).X.length=L:=⟨_,rfl⟩
 by_cases hL:L=1
 rotate_left
 ·have eE:swE ns (r:Int)=4:=(if_pos hn).trans (if_neg (by rw [eL];exact hL))
  have eL2:swL ns (r:Int) = []:=if_neg (by rw [eE];omega)
  rw [eE,eL2]
  have hL':((L:Int)==1)=false:=by simp;omega
  have HL:Hid ((ndN ns (r:Int)).X.length=L):=eL
  clear hT hTz hn eE eL2 hG hV hNK hl hrl eL hL
  go_enter Tryz.func10,Tryz.ntmps10
  go_wp2_with fail
  refine cV.out.mono ?_
  rintro e w1 ⟨v1,rfl,⟨s1,t1,rfl,hs1,ht1⟩,hB1⟩
  obtain ⟨p1,n1,c1,rfl⟩:=hs1.form_
  obtain ⟨q1,e1,rfl,_⟩:=ht1.nums.view
  rw [HL.out]
  clear cV hs1 ht1
  go_wp2
  exact bodyPost_ret (v:=.tuple #[.slice none 0 0,.int .i64 4]) (by simp [results,Tryz.results10,go_sem]) rfl ⟨_,rfl,OwnTs.nil _ _,bstep hB1 (up_alloc _ _)⟩
 subst hL
 have eE:swE ns (r:Int)=0:=(if_pos hn).trans (if_pos eL)
 have eL2:swL ns (r:Int)=(swK ns r (r+1)).1:=if_pos eE
 rw [eE,eL2]
 have HL:Hid ((ndN ns (r:Int)).X.length=1∧r < 512):=⟨eL,by omega⟩
 have cS:Hid (∀ W,Below w.heap.size w W→Calls Tryz.prog 26 #[.pointer (some ⟨tb,0,none⟩),.int .i64 (r:Int)] W fun e w'=>∃ sb gb vb,e = .returned (.tuple #[.pointer (some ⟨sb,0,none⟩),.int .i64 0])∧SwC w' W.heap.size sb tb gb vb (r+1) (sw0 ns r).1 (sw0 ns r).2∧Below W.heap.size W w'):=fun W hW=>cstart_any B tb ns hG r hrl hl eL W (hT.up hW)
 have cP:Hid (∀ (k i sb gb vb B':Nat) W,k≤r→i=r - k→B'≤W.heap.size→Below w.heap.size w W→SwC W B' sb tb gb vb (r+1) (swK ns r k).1 (swK ns r k).2→Calls Tryz.prog 27 #[.pointer (some ⟨sb,0,none⟩),.int .i64 (i:Int)] W fun e w'=>e = .returned (.int .i64 0)∧SwC w' B' sb tb gb vb (r+1) (swK ns r (k+1)).1 (swK ns r (k+1)).2∧Below B' W w'):=fun k i sb gb vb B' W hk hi hB hW hS=>by
  subst hi
  exact cpass_any B' B tb ns hG hV hNK r (r - k) hrl (by omega) (swK ns r k) (swK_g hG hV hrl eL k) sb gb vb W (hT.up hW) (Hid.up_tz hTz hW) hS hB
 have hr5:(r:Int) < 512:=by omega
 haveI:Nonempty World:=⟨w⟩
 clear hT hTz hn eE eL2 hG hV hNK hl hrl eL
 go_enter Tryz.func10,Tryz.ntmps10
 go_wp2_with fail
 refine cV.out.mono ?_
 rintro e w1 ⟨v1,rfl,⟨s1,t1,rfl,hs1,ht1⟩,hB1⟩
 obtain ⟨p1,n1,c1,rfl⟩:=hs1.form_
 obtain ⟨q1,e1,rfl,_⟩:=ht1.nums.view
 rw [HL.out.1]
 have HB1:Hid (Below w.heap.size w w1):=hB1
 clear cV hs1 ht1 hB1
 go_wp2_with fail
 generalize hW2:World.alloc _ _=W2
 have HB2:Hid (Below w.heap.size w W2):=by
  show Below _ _ _
  rw [← hW2]
  exact bstep HB1.out (up_alloc _ _)
 clear hW2 HB1
 refine (cS.out W2 HB2.out).mono ?_
 rintro e w3 ⟨sb,gb,vb,rfl,hS3,hB3⟩
 have HS3:Hid (SwC w3 W2.heap.size sb tb gb vb (r+1) (swK ns r 0).1 (swK ns r 0).2∧Below w.heap.size w w3∧W2.heap.size≤w3.heap.size∧w.heap.size≤W2.heap.size):=⟨hS3,bstep HB2.out hB3,hB3.size,HB2.out.size⟩
 obtain ⟨B',eB'⟩:∃ B',W2.heap.size=B':=⟨_,rfl⟩
 rw [eB'] at HS3
 clear hS3 hB3 HB2 eB' cS
 go_wp2_with fail
 go_loopg [10] (r+1) (fun gg i wr=>∃ (k:Nat),k≤r+1∧gg=r+1 - k∧i = .int .i64 ((r:Int) - (k:Int))∧Hid (SwC wr B' sb tb gb vb (r+1) (swK ns r k).1 (swK ns r k).2)∧Hid (Below w.heap.size w wr∧B'≤wr.heap.size))
 case atStart=>exact ⟨0,by omega,by omega,by first|rfl|simp,HS3.out.1,HS3.out.2.1,HS3.out.2.2.1⟩
 case round=>
  obtain ⟨k,hk,hgk,rfl,HS,HBk⟩:=hrel
  obtain ⟨R1,hR1⟩:∃ R1:World,R1=wr:=⟨_,rfl⟩
  subst hR1
  by_cases hkn:k < r+1
  ·obtain ⟨i,ei⟩:∃ i:Nat,(r:Int) - (k:Int)=(i:Int):=⟨r - k,by omega⟩
   rw [ei]
   have hi5:(i:Int) < 512:=by omega
   have hik:Hid (i=r - k):=by show _=_;omega
   have HE:Hid ((i:Int) - 1=(r:Int) - ((k+1:Nat):Int)):=by show _=_;omega
   clear ei
   go_wp2_with fail
   refine (cP.out k i sb gb vb B' R1 (by omega) hik.out HBk.out.2 HBk.out.1 HS.out).mono ?_
   rintro e w4 ⟨rfl,hS4,hB4⟩
   have H4:Hid (SwC w4 B' sb tb gb vb (r+1) (swK ns r (k+1)).1 (swK ns r (k+1)).2):=hS4
   have H5:Hid (Below w.heap.size w w4∧B'≤w4.heap.size):=⟨HBk.out.1.trans (hB4.mono HS3.out.2.2.2),Nat.le_trans HBk.out.2 hB4.size⟩
   clear hS4 hB4 HS HBk
   go_wp2
   go_roundg (r+1 - (k+1))
   case measure=>omega
   case rel=>exact ⟨k+1,by omega,rfl,by rw [← HE.out],H4,H5⟩
  ·obtain rfl:k=r+1:=by omega
   have ei:(r:Int) - ((r+1:Nat):Int) = -1:=by omega
   rw [ei]
   obtain ⟨b0,b1,b2⟩:=HS.out.tape
   have kb:=cell_lt b0
   have HF:Hid (OwnTs R1 w.heap.size (.slice (some ⟨gb,0,none⟩) (r+1) (r+1)) (swK ns r (r+1)).1∧Below w.heap.size w R1):=⟨(HS.out.own (by have:=HL.out.2;omega)).low HS3.out.2.2.2,HBk.out.1⟩
   clear HS HBk ei
   go_wp2
   exact bodyPost_ret (v:=.tuple #[.slice (some ⟨gb,0,none⟩) (r+1) (r+1),.int .i64 0]) (by simp [results,Tryz.results10,go_sem]) rfl ⟨_,rfl,HF.out⟩
def cv (x:Int) (k:List Int):Nat→Int
 | 0=>x
 | i+1=>Fx.mulI (cv x k i) (k.getD i 0)
def chN (x:Int) (k:List Int):Nat→List Nd
 | 0=>[⟨1,-1,-1,0,[1],[x]⟩]
 | i+1=>chN x k i++[⟨5,(i:Int),-1,k.getD i 0,[1],[cv x k (i+1)]⟩]
theorem chN_len (x:Int) (k:List Int):∀ i,(chN x k i).length=i+1
 | 0=>rfl
 | i+1=>by rw [chN,List.length_append,chN_len x k i];rfl
theorem chN_at (x:Int) (k:List Int):∀ i j,j≤i→(chN x k i)[j]?=some (if j=0 then ⟨1,-1,-1,0,[1],[x]⟩ else ⟨5,((j - 1:Nat):Int),-1,k.getD (j - 1) 0,[1],[cv x k j]⟩)
 | 0,j,h=>by
  obtain rfl:j=0:=by omega
  rfl
 | i+1,j,h=>by
  rw [chN]
  by_cases hj:j≤i
  ·rw [List.getElem?_append_left (by rw [chN_len];omega)]
   exact chN_at x k i j hj
  ·obtain rfl:j=i+1:=by omega
   rw [List.getElem?_append_right (by rw [chN_len];omega),chN_len,Nat.sub_self,if_neg (by omega)]
   rfl
theorem ch_nd (x:Int) (k:List Int) (i j:Nat) (h:j≤i):ndN (chN x k i) (j:Int)=if j=0 then ⟨1,-1,-1,0,[1],[x]⟩ else ⟨5,((j - 1:Nat):Int),-1,k.getD (j - 1) 0,[1],[cv x k j]⟩:=nd_at (chN_at x k i j h)
theorem ch_dx (x:Int) (k:List Int) (i j:Nat) (h:j≤i):(ndN (chN x k i) (j:Int)).D = [1]∧(ndN (chN x k i) (j:Int)).X = [cv x k j]:=by
 rw [ch_nd x k i j h]
 split
 ·rename_i e
  subst e
  exact ⟨rfl,rfl⟩
 ·exact ⟨rfl,rfl⟩
theorem ch_do (x:Int) (k:List Int) (i:Nat) (hi:i≤20):doR (chN x k i) 5 (i:Int) (-1) (k.getD i 0)=((i+1:Nat):Int)∧doE (chN x k i) 5 (i:Int) (-1) (k.getD i 0)=0∧doN (chN x k i) 5 (i:Int) (-1) (k.getD i 0)=chN x k (i+1):=by
 have h:=scale_one (ns:=chN x k i) (v:=cv x k i) (i:Int) (k.getD i 0) (by rw [chN_len];omega) ⟨by omega,by rw [chN_len];omega⟩ (ch_dx x k i i (Nat.le_refl _)).1 (ch_dx x k i i (Nat.le_refl _)).2
 rw [chN_len] at h
 exact h
theorem ch_g {x:Int} (hx:InR x) (k:List Int):∀ i,i≤20→NodesG (chN x k i)∧NodesV (chN x k i)
 | 0,_=>ad_g1 hx
 | i+1,h=>by
  have ih:=ch_g hx k i (by omega)
  have a:=NodesG.do (op:=5) (a:=(i:Int)) (b:=-1) (k:=k.getD i 0) ih.1
  have b:=NodesV.do (op:=5) (a:=(i:Int)) (b:=-1) (k:=k.getD i 0) ih.2
  rw [(ch_do x k i (by omega)).2.2] at a b
  exact ⟨a,b⟩
theorem ch_k {k:List Int} (hk:RI k) (x:Int):∀ i,NodesK (chN x k i)
 | 0=>fun nd hm=>by
  have e:nd=⟨1,-1,-1,0,[1],[x]⟩:=by simpa [chN] using hm
  subst e
  exact zero_R
 | i+1=>fun nd hm=>by
  rw [chN] at hm
  rcases List.mem_append.1 hm with h|h
  ·exact ch_k hk x i nd h
  ·have e:=List.mem_singleton.1 h
   subst e
   exact InR_get hk i
/-- What the gradient has come to, so many scales back. -/
def wt (k:List Int) (L:Nat):Nat→Int
 | 0=>4294967296
 | m+1=>Fx.mulI (wt k L m) (k.getD (L - 1 - m) 0)
theorem wt_in (k:List Int) (L:Nat):∀ m,InR (wt k L m)
 | 0=>one_R
 | m+1=>mulI_rng _ _
def stL (k:List Int) (L q:Nat):List Ten:=(List.range (L+1)).map fun j=>([1],[if L≤j+q then wt k L (L - j) else 0])
def stF (L q:Nat):List Bool:=(List.range (L+1)).map fun j=>decide (L≤j+q)
theorem rng_set {α:Type} (f g:Nat→α) (n r:Nat) (v:α) (hr:r < n) (h1:g r=v) (h2:∀ j,j < n→j≠r→g j=f j):((List.range n).map f).set r v=(List.range n).map g:=by
 refine List.ext_getElem? fun j=>?_
 rw [List.getElem?_set]
 by_cases hj:j < n
 ·simp only [List.getElem?_map,List.getElem?_range hj,Option.map_some,List.length_map,List.length_range]
  by_cases e:r=j
  ·subst e
   rw [if_pos rfl,if_pos hr,h1]
  ·rw [if_neg e,h2 j hj (fun h=>e h.symm)]
 ·rw [if_neg (by omega),List.getElem?_eq_none (by simp;omega),List.getElem?_eq_none (by simp;omega)]
theorem rng_at {α:Type} (f:Nat→α) (n j:Nat) (d:α) (hj:j < n):((List.range n).map f).getD j d=f j:=by
 rw [List.getD_eq_getElem?_getD,List.getElem?_map,List.getElem?_range hj]
 rfl
theorem ch_sw0 (x:Int) (k:List Int) (L:Nat):sw0 (chN x k L) L=(stL k L 0,stF L 0):=by
 refine Prod.ext ?_ ?_
 ·refine rng_set (fun (i:Nat)=>((ndN (chN x k L) (i:Int)).D,List.replicate (ndN (chN x k L) (i:Int)).X.length (0:Int))) _ (L+1) L _ (by omega) ?_ fun j hj hne=>?_
  ·rw [if_pos (by omega),Nat.sub_self,(ch_dx x k L L (Nat.le_refl _)).1]
   rfl
  ·rw [if_neg (by omega),(ch_dx x k L j (by omega)).1,(ch_dx x k L j (by omega)).2]
   rfl
 ·show (List.replicate (L+1) false).set L true=_
  have e:List.replicate (L+1) false=(List.range (L+1)).map fun _=>false:=by
   refine List.ext_getElem (by simp) fun i h1 h2=>by simp
  rw [e]
  exact rng_set _ _ (L+1) L _ (by omega) (decide_eq_true (by omega)) fun j hj hne=>decide_eq_false (by omega)
theorem ch_step (x:Int) (k:List Int) (L q:Nat) (hq:q < L):swStep (chN x k L) (L - q) (stL k L q,stF L q)=(stL k L (q+1),stF L (q+1)):=by
 obtain ⟨i,ei⟩:∃ i,L - q=i+1:=⟨L - q - 1,by omega⟩
 rw [ei]
 have hnd:ndN (chN x k L) ((i+1:Nat):Int)=⟨5,(i:Int),-1,k.getD i 0,[1],[cv x k (i+1)]⟩:=by
  rw [ch_nd x k L (i+1) (by omega),if_neg (by omega)]
  rfl
 have hf:(stF L q).getD (i+1) false=true:=by
  unfold stF
  rw [rng_at _ _ _ _ (by omega)]
  exact decide_eq_true (by omega)
 have hg:(stL k L q).getD (i+1) noT=([1],[wt k L q]):=by
  unfold stL
  rw [rng_at _ _ _ _ (by omega),if_pos (by omega),show L - (i+1)=q by omega]
 have hg0:(stL k L q).getD i noT=([1],[0]):=by
  unfold stL
  rw [rng_at _ _ _ _ (by omega),if_neg (by omega)]
 unfold swStep
 rw [hnd]
 simp only []
 rw [if_pos ⟨hf,by omega⟩,if_neg (by omega),hg]
 show ((stL k L q).set i (add2 ((stL k L q).getD i noT) (scale2 ([1],[wt k L q]) (k.getD i 0))),(stF L q).set i true)=_
 rw [hg0,one_scale,one_add0 (mulI_rng _ _)]
 have ew:Fx.mulI (wt k L q) (k.getD i 0)=wt k L (q+1):=by rw [wt,show L - 1 - q=i by omega]
 rw [ew]
 refine Prod.ext ?_ ?_
 ·refine rng_set _ _ (L+1) i _ (by omega) ?_ fun j hj hne=>?_
  ·rw [if_pos (by omega),show L - i=q+1 by omega]
  ·by_cases h:L≤j+q
   ·rw [if_pos h,if_pos (by omega)]
   ·rw [if_neg h,if_neg (by omega)]
 ·refine rng_set _ _ (L+1) i _ (by omega) (decide_eq_true (by omega)) fun j hj hne=>?_
  exact decide_eq_decide.2 (by omega)
theorem ch_swK (x:Int) (k:List Int) (L:Nat):∀ q,q≤L→swK (chN x k L) L q=(stL k L q,stF L q)
 | 0,_=>ch_sw0 x k L
 | q+1,h=>by rw [swK,ch_swK x k L q (by omega),ch_step x k L q (by omega)]
theorem ch_sw (x:Int) (k:List Int) (L:Nat):swE (chN x k L) (L:Int)=0∧swL (chN x k L) (L:Int)=stL k L L:=by
 have e0:swE (chN x k L) (L:Int)=0:=(if_pos ⟨by omega,by rw [chN_len];omega⟩).trans (if_pos (by rw [(ch_dx x k L L (Nat.le_refl _)).2];rfl))
 refine ⟨e0,?_⟩
 unfold swL
 rw [if_pos e0]
 show (swStep (chN x k L) (L - L) (swK (chN x k L) L L)).1=_
 rw [ch_swK x k L L (Nat.le_refl _),Nat.sub_self]
 unfold swStep
 have hop:(ndN (chN x k L) ((0:Nat):Int)).op=1:=by rw [ch_nd x k L 0 (by omega)];rfl
 rw [if_neg (fun h=>h.2 hop)]
theorem ch_first (k:List Int) (L:Nat):(stL k L L)[0]?=some ([1],[wt k L L])∧(stL k L L).length=L+1:=by
 unfold stL
 refine ⟨?_,by simp⟩
 rw [List.getElem?_map,List.getElem?_range (by omega),Option.map_some,if_pos (by omega)]
 rfl
/-- An order of one's own. -/
def RowO (B:Nat) (o:List Int) (v:Value) (W:World):Prop:=∃ p n c,v = .slice p n c∧OwnK .i64 3 W B (.slice p n c) o
theorem RowO.up {B:Nat} {o:List Int} {v:Value} {W W':World} (h:RowO B o v W) (hB:Below W.heap.size W W'):RowO B o v W':=by
 obtain ⟨p,n,c,e,h1⟩:=h
 exact ⟨p,n,c,e,h1.up hB⟩
theorem sum_own (p p2:Option Addr) (n c n2 c2:Nat) (d x:List Int) (side:Int) (hr:InR side) (hd:RI d) (hx:RI x) (hn10:n≤10) (w:World) (h1:Nums .i64 w (.slice p n c) d) (h2:Nums .i64 w (.slice p2 n2 c2) x):
  Calls Tryz.prog 48 #[.agg #[.slice p n c,.slice p2 n2 c2],.int .i64 side] w fun e w'=>∃ v',e = .returned (.tuple #[v',.int .i64 (smE d x side)])∧TRes w' w.heap.size v' (smD d x side) (smV d x side)∧Below w.heap.size w w':=by
 obtain ⟨_,_,_,e4,HD⟩:=h1.lst
 cases e4
 obtain ⟨_,_,_,e4,HX⟩:=h2.lst
 cases e4
 have hdl:d.length=n:=HD.out.1
 obtain ⟨O,eO⟩:∃ O,lastO n side=O:=⟨_,rfl⟩
 have rO:RI O:=fun y hy=>by
  rw [← eO] at hy
  unfold lastO butO at hy
  rcases List.mem_append.1 hy with h|h
  ·obtain ⟨k,hk,rfl⟩:=List.mem_map.1 (List.mem_filter.1 h).1
   have:=List.mem_range.1 hk
   omega
  ·simp at h
   rw [h]
   exact hr
 obtain ⟨E,eE⟩:∃ E,turnE d x O=E:=⟨_,rfl⟩
 obtain ⟨DD,eDD⟩:∃ E,turnD d x O=E:=⟨_,rfl⟩
 obtain ⟨VV,eVV⟩:∃ E,turnV d x O=E:=⟨_,rfl⟩
 have cL:Hid (∀ B W,B≤W.heap.size→Calls Tryz.prog 92 #[.int .i64 (n:Int),.int .i64 side] W fun e w'=>∃ u,e = .returned u∧RowO B O u w'∧Below W.heap.size W w'):=fun B W hB=>by
  rw [← eO]
  refine (sideLast_any n (by omega) side hr W).mono ?_
  rintro e w' ⟨u,rfl,h,hb⟩
  obtain ⟨q,m,k,rfl,_⟩:=h.nums.lst
  exact ⟨_,rfl,⟨_,_,_,rfl,h.low hB⟩,hb⟩
 have cT:Hid (∀ B W B' v,B≤W.heap.size→Below w.heap.size w W→RowO B' O v W→Calls Tryz.prog 91 #[.agg #[.slice p n c,.slice p2 n2 c2],v] W fun e w'=>∃ u,e = .returned u∧TupP B DD VV E u w'∧Below W.heap.size W w'):=fun B W B' v hB hW hv=>by
  obtain ⟨q,m,k,rfl,h⟩:=hv
  rw [← eE,← eDD,← eVV]
  refine (tturn_any p p2 q n c n2 c2 m k d x O hd rO W (h1.up hW) (h2.up hW) h.nums).mono ?_
  rintro e w' ⟨u,rfl,h,hb⟩
  exact ⟨_,rfl,⟨u,rfl,(h.low hB).own⟩,hb⟩
 have HE:Hid (lastO n side=O∧turnE d x O=E∧turnD d x O=DD∧turnV d x O=VV∧d.length=n∧RI x∧InR side):=⟨eO,eE,eDD,eVV,hdl,hx,hr⟩
 have HN:Hid (Nums .i64 w (.slice p n c) d∧Nums .i64 w (.slice p2 n2 c2) x):=⟨h1,h2⟩
 have hn10':(n:Int)≤10:=by omega
 have hr':-9223372036854775808≤side∧side≤9223372036854775807:=hr
 obtain ⟨sE,esE⟩:∃ e,smE d x side=e:=⟨_,rfl⟩
 obtain ⟨sD,esD⟩:∃ e,smD d x side=e:=⟨_,rfl⟩
 obtain ⟨sV,esV⟩:∃ e,smV d x side=e:=⟨_,rfl⟩
 rw [esE,esD,esV]
 have HM:Hid (smE d x side=sE∧smD d x side=sD∧smV d x side=sV):=⟨esE,esD,esV⟩
 haveI:Nonempty World:=⟨w⟩
 clear esE esD esV eO eE eDD eVV rO hd hx h1 h2 hdl hr
 go_enter Tryz.func48,Tryz.ntmps48
 go_wp2_with fail
 refine name_world (fun W0 hW0=>?_)
 have B0:Below w.heap.size w W0:=by rw [hW0];go_grown
 have XA:Hid (Cel W0 w.heap.size (.slice p n c) (.slice p2 n2 c2)):=by show Cel _ _ _ _;unfold Cel;rw [hW0];simp [go_sem]
 have XR:Hid (Cel W0 (w.heap.size+1) (.slice none 0 0) (.slice none 0 0)):=by show Cel _ _ _ _;unfold Cel;rw [hW0];simp [go_sem]
 have HB0:Hid (Below w.heap.size w W0):=B0
 clear hW0 B0
 obtain ⟨a0,a1,_,_⟩:=XA.out
 have a9:=cell_lt a0
 refine relE [⟨5,17,RowO W0.heap.size O⟩,⟨6,18,TupP W0.heap.size DD VV E⟩,⟨7,11,TupP W0.heap.size DD VV E⟩,⟨8,19,OwnT W0.heap.size DD VV⟩,⟨10,6,NewC W0.heap.size⟩] 11 66 (by kernel_rfl) rfl rfl 9 _ rfl (by decide) rfl (by kernel_rfl) (by kernel_rfl) (fun _ _ _ _ h=>h) (by rfl) ?_ ?_
 ·intro e he v W W' h hb
  simp only [List.mem_cons,List.not_mem_nil,or_false] at he
  rcases he with rfl|rfl|rfl|rfl|rfl
  ·exact RowO.up h hb
  ·exact TupP.up h hb
  ·exact TupP.up h hb
  ·exact OwnT.up h hb
  ·exact NewC.up h hb
 apply Exists.intro
 refine ⟨?yl1,?wk1,?pk1,?rest1⟩
 case wk1=>
  intro x
  simp only [List.take_succ_cons,List.take_zero]
  iterate 5
   refine relQuiet rfl rfl ?_
   apply Exists.intro
   refine ⟨fun F hF hf K hK=>?_,?_⟩
   ·have hFc:=hF.cell
    have hFf:=hF.frozen
    go_big_quiet_op
    exact hK
   (try simp only [putL])
  refine relTold rfl rfl ?_ ?_
  ·intro F hF hf d
   have hFc:=hF.cell
   have hFf:=hF.frozen
   simp [yieldsR,yieldsUpon,go_sem]
   refine (cL.out W0.heap.size (F d) (hF.below d).size).mono ?_
   rintro e' w8 ⟨v8,rfl,h8,hb8⟩
   exact ⟨_,rfl,h8,hb8⟩
  (try simp only [putL])
  refine relTold rfl rfl ?_ ?_
  ·intro F hF hf d
   have hFc:=hF.cell
   have hFf:=hF.frozen
   have h9:=hf _ List.mem_cons_self (by rfl) d
   simp [yieldsR,yieldsUpon,go_sem]
   refine (cT.out W0.heap.size (F d) _ _ (hF.below d).size (bstep HB0.out (hF.below d)) h9).mono ?_
   rintro e' w8 ⟨v8,rfl,h8,hb8⟩
   exact ⟨_,rfl,h8,hb8⟩
  (try simp only [putL])
  refine relTold rfl rfl ?_ ?_
  ·intro F hF hf d
   have hFc:=hF.cell
   have hFf:=hF.frozen
   have h9:=hf _ (List.mem_cons_of_mem _ List.mem_cons_self) (by rfl) d
   simp [yieldsR,yieldsUpon,go_sem]
   exact ⟨h9,Below.refl _ _⟩
  (try simp only [putL])
  refine relTold rfl rfl ?_ ?_
  ·intro F hF hf d
   have hFc:=hF.cell
   have hFf:=hF.frozen
   have h9:=hf _ (List.mem_cons_of_mem _ (List.mem_cons_of_mem _ List.mem_cons_self)) (by rfl) d
   obtain ⟨u9,e9,o9⟩:=h9
   simp only [] at e9
   simp [yieldsR,yieldsUpon,go_sem,e9]
   exact ⟨o9,Below.refl _ _⟩
  (try simp only [putL])
  refine relQuiet rfl rfl ?_
  apply Exists.intro
  refine ⟨fun F hF hf K hK=>?_,?_⟩
  ·have hFc:=hF.cell
   have hFf:=hF.frozen
   have h9:=hf _ (List.mem_cons_of_mem _ (List.mem_cons_of_mem _ List.mem_cons_self)) (by rfl)
   obtain ⟨u9,e9,_⟩:=h9 w
   simp only [] at e9
   go_big_quiet_op
   exact hK
  (try simp only [putL])
  refine relTold rfl rfl ?_ ?_
  ·intro F hF hf d
   have hFc:=hF.cell
   have hFf:=hF.frozen
   simp [yieldsR,yieldsUpon,go_sem]
   exact ⟨⟨(F d).heap.size,rfl,by show ((F d).heap.push _)[(F d).heap.size]?=_;simp,(hF.below d).size⟩,up_alloc _ _⟩
  (try simp only [putL])
  refine relEnd ?_
  exact rfl
 case pk1=>
  intro x
  simp only [putsK,List.foldl_cons,List.foldl_nil,Act.put,List.setIfInBounds_toArray,List.set_cons_zero,List.set_cons_succ]
 case yl1=>
  intro x hx
  obtain ⟨W9,u9,e9,_⟩:=hx _ (List.mem_cons_of_mem _ (List.mem_cons_of_mem _ List.mem_cons_self)) (by rfl)
  simp only [] at e9
  refine ⟨.int .i64 E,fun t ht=>?_,.inl ⟨by rfl,fun w=>?_⟩⟩
  ·cases ht
   rfl
  ·simp [execOp,Act.eval,e9,go_sem]
 intro z1 xs hBz1 hf
 simp only [List.drop_succ_cons,List.drop_zero]
 have hT1:=hf _ (List.mem_cons_of_mem _ (List.mem_cons_of_mem _ (List.mem_cons_of_mem _ List.mem_cons_self)))
 have hN:=hf _ (List.mem_cons_of_mem _ (List.mem_cons_of_mem _ (List.mem_cons_of_mem _ (List.mem_cons_of_mem _ List.mem_cons_self))))
 obtain ⟨pa1,na1,ca_1,pb1,nb1,cb_1,ev,o1,o2⟩:=hT1
 obtain ⟨g6,eb,hb1,hb2⟩:=hN
 simp only [] at ev eb
 obtain ⟨x5,e5⟩:∃ q,xs 5=q:=⟨_,rfl⟩
 obtain ⟨x6,e6⟩:∃ q,xs 6=q:=⟨_,rfl⟩
 obtain ⟨x7,e7⟩:∃ q,xs 7=q:=⟨_,rfl⟩
 simp only [ev,eb,e5,e6,e7]
 have cbl:=new_cel hb1
 have f1:=o1.off_type hb1 (by decide)
 have f2:=o2.off_type hb1 (by decide)
 have hS:Below W0.heap.size W0 (set2 z1 g6 (.slice pa1 na1 ca_1) (.slice pb1 nb1 cb_1)):=below_set2 hBz1 g6 hb2 _ _
 have HO:Hid (OwnK .i64 3 (set2 z1 g6 (.slice pa1 na1 ca_1) (.slice pb1 nb1 cb_1)) W0.heap.size (.slice pa1 na1 ca_1) DD∧OwnK .i64 22 (set2 z1 g6 (.slice pa1 na1 ca_1) (.slice pb1 nb1 cb_1)) W0.heap.size (.slice pb1 nb1 cb_1) VV∧W0.heap.size≤g6):=⟨o1.stay (Stay.set2 _ _ _) f1,o2.stay (Stay.set2 _ _ _) f2,hb2⟩
 have HC6:Hid (Cel (set2 z1 g6 (.slice pa1 na1 ca_1) (.slice pb1 nb1 cb_1)) g6 (.slice pa1 na1 ca_1) (.slice pb1 nb1 cb_1)):=(new_cel hb1).set _ _
 have HBz:Hid (Below w.heap.size w (set2 z1 g6 (.slice pa1 na1 ca_1) (.slice pb1 nb1 cb_1))∧Below W0.heap.size W0 (set2 z1 g6 (.slice pa1 na1 ca_1) (.slice pb1 nb1 cb_1))):=⟨bstep HB0.out hS,hS⟩
 obtain ⟨c0,c1,c2_,c3_⟩:=cbl
 have cz:=cell_lt c0
 clear hf e5 e6 e7 ev eb f1 f2 o1 o2 cL cT a0 a1 a9 hS hb2 hBz1 hb1
 by_cases hs:smP d x side
 ·obtain ⟨hp,hs0,hs1⟩:=hs
  obtain ⟨a,ga,rfl⟩:=good_itl hp.1
  obtain ⟨s,rfl⟩:=Int.eq_ofNat_of_zero_le hs0
  rw [itl_len] at hs1
  have hsa:s < a.length:=by omega
  have hxa:x.length=prodN a:=by have:=hp.2;rw [ntl_itl] at this;exact this
  have hal:a.length=n:=by have:=HE.out.2.2.2.2.1;rw [itl_len] at this;exact this
  obtain ⟨k1,k2,k3,k4⟩:=sm_turn ga hxa s hsa
  rw [hal,HE.out.1] at k1 k2 k3 k4
  have hE:E=0:=by rw [← HE.out.2.1];exact k1
  rw [HE.out.2.2.1] at k2
  rw [HE.out.2.2.2.1] at k3 k4
  subst hE k2
  have hsm:smP (itl a) x (s:Int):=⟨hp,hs0,by rw [itl_len];exact hs1⟩
  have hv1:sE=0:=by rw [← HM.out.1];exact if_pos hsm
  have hv2:sD=itl (lessN a s):=by rw [← HM.out.2.1];unfold smD;rw [if_pos hsm,ntl_itl];rfl
  have hv3:sV=sumV a s x:=by rw [← HM.out.2.2];unfold smV;rw [if_pos hsm,ntl_itl];rfl
  subst hv1 hv2
  obtain ⟨C,eC⟩:∃ C,a.getD s 0=C:=⟨_,rfl⟩
  obtain ⟨N,eN⟩:∃ N,prodN (lessN a s)=N:=⟨_,rfl⟩
  have hNC:N*C=prodN a:=by rw [← eN,← eC];exact prodN_less a s hsa
  have hC1:1≤C:=by rw [← eC];exact side_one ga s hsa
  have hN1:1≤N:=by rw [← eN];exact (good_less ga s hsa).pos
  have hN2:N≤4096:=by rw [← eN];exact (good_less ga s hsa).2.2
  have hC2:C≤4096:=by have:=Nat.mul_le_mul_right C hN1;rw [hNC,Nat.one_mul] at this;have:=ga.2.2;omega
  have hn2:n2=N*C:=by rw [hNC,← hxa];exact HX.out.1.symm
  have hQ:(n2:Int) / (C:Int)=(N:Int):=by
   rw [hn2]
   push_cast
   exact Int.mul_ediv_cancel _ (by omega)
  rw [eC,eN] at k4
  rw [eC] at HO
  have HS:Hid (sV=sumV a s x∧sV.length=N∧VV.length=N*C∧(∀ i k,i < N→k < C→VV.getD (i*C+k) 0=x.getD ((i / prodN (a.drop (s+1))*C+k)*prodN (a.drop (s+1))+i % prodN (a.drop (s+1))) 0)∧a.getD s 0=C∧prodN (lessN a s)=N∧RI VV∧a.length=n∧s < a.length∧N*C≤4096):=by
   refine ⟨hv3,by rw [hv3,sumV_len,eN],by rw [k3,hNC],k4,eC,eN,fun y hy=>?_,hal,hsa,by rw [hNC];exact ga.2.2⟩
   rw [← HE.out.2.2.2.1] at hy
   unfold turnV at hy
   split at hy
   ·obtain ⟨i,_,rfl⟩:=List.mem_map.1 hy
    exact getD_inR HE.out.2.2.2.2.2.1 _
   ·cases hy
  obtain ⟨q,o,rfl,hc0⟩:=HD.out.2 s (by omega)
  rw [itl_getD,eC] at hc0
  have hsn:(s:Int) < (n:Int):=by omega
  have hC':1≤(C:Int)∧(C:Int)≤4096:=by omega
  have hN':1≤(N:Int)∧(N:Int)≤4096:=by omega
  have hn2':(n2:Int)≤4096:=by have:=HS.out.2.2.2.2.2.2.2.2.2;omega
  have hn1':1≤(n:Int):=by omega
  obtain ⟨n',en'⟩:∃ n',n=n'+1:=⟨n - 1,by omega⟩
  have en:(n:Int) - 1=(n':Int):=by omega
  have Hn:Hid (n=n'+1):=en'
  clear hp hs0 hs1 hxa hal k1 k3 k4 hsm hv3 eC eN hNC hC1 hC2 hN1 hN2 hn2 hsa ga en'
  obtain ⟨Wz,hWz⟩:∃ Wz,(set2 z1 g6 (.slice pa1 na1 ca_1) (.slice pb1 nb1 cb_1))=Wz:=⟨_,rfl⟩
  rw [hWz] at HO HBz HC6
  obtain ⟨q0,q1,_,_⟩:=HC6.out
  obtain ⟨a0,a1,_,_⟩:=XA.out.up HBz.out.2
  have q9:=cell_lt q0
  have a9:=cell_lt a0
  have ua:=cell_low hc0 HBz.out.1
  have ua9:=cell_lt ua
  go_wp2_with (at_make;refine wpList_makeK fixT (by decide) _ rfl (.tmp 34) (.tmp 34) rfl .i64 .i64 N N N rfl rfl rfl rfl (by omega) Wz.heap.size Wz (Nat.le_refl _) (Below.refl _ _) ?_;intro w4 HO4 B4 B4';clear B4')
  clear q0 q1 a0 a1 q9 a9 ua ua9 hWz c0 c1 c2_ c3_ cz
  obtain ⟨g,hg⟩:∃ g,Wz.heap.size=g:=⟨_,rfl⟩
  rw [hg] at HO4 ⊢
  have HB4:Hid (Below w.heap.size w w4∧Below W0.heap.size W0 w4∧Below Wz.heap.size Wz w4):=⟨bstep HBz.out.1 B4,bstep HBz.out.2 B4,B4⟩
  have Hg:Hid (Wz.heap.size=g∧g6 < g∧W0.heap.size≤g∧w.heap.size+1 < W0.heap.size):=⟨hg,by rw [← hg];exact cell_lt HC6.out.1,by rw [← hg];exact HBz.out.2.size,cell_lt XR.out.1⟩
  have HO5:Hid (OwnK .i64 22 w4 g (.slice (some ⟨g,0,none⟩) N N) (rowF sV 0)):=by
   show OwnK _ _ _ _ _ _
   rw [rowF_zero,HS.out.2.1]
   exact HO4.out
  clear HO4 B4 hg
  go_loopg [38] N (fun gg i wr=>∃ (k:Nat),k≤N∧gg=N - k∧i = .int .i64 (k:Int)∧Hid (OwnK .i64 22 wr g (.slice (some ⟨g,0,none⟩) N N) (rowF sV k))∧Hid (Below w.heap.size w wr∧Stay g w4 wr))
  case atStart=>exact ⟨0,by omega,by omega,by first|rfl|simp,HO5,HB4.out.1,Stay.refl _ _⟩
  case round=>
   obtain ⟨k,hk,hgg,rfl,HRk,hBS⟩:=hrel
   obtain ⟨R1,hR1⟩:∃ R1:World,R1=wr:=⟨_,rfl⟩
   subst hR1
   have xA:Cel R1 w.heap.size (.slice (some ⟨q,o,none⟩) n c) (.slice p2 n2 c2):=(XA.out.up HB4.out.2.1).stay hBS.out.2 (by have:=Hg.out;omega)
   have xR:Cel R1 (w.heap.size+1) (.slice none 0 0) (.slice none 0 0):=(XR.out.up HB4.out.2.1).stay hBS.out.2 (by have:=Hg.out;omega)
   have x6:Cel R1 g6 (.slice pa1 na1 ca_1) (.slice pb1 nb1 cb_1):=(HC6.out.up HB4.out.2.2).stay hBS.out.2 (by have:=Hg.out;omega)
   have o7:OwnK .i64 22 R1 W0.heap.size (.slice pb1 nb1 cb_1) VV:=(HO.out.2.1.up HB4.out.2.2).stay hBS.out.2 (HO.out.2.1.off_new (by have:=Hg.out;omega))
   have o6:OwnK .i64 3 R1 W0.heap.size (.slice pa1 na1 ca_1) (itl (lessN a s++[C])):=(HO.out.1.up HB4.out.2.2).stay hBS.out.2 (HO.out.1.off_new (by have:=Hg.out;omega))
   by_cases hkn:k < N
   ·have hk':(k:Int) < (N:Int):=by omega
    obtain ⟨Z,eZ⟩:=row_is pb1 k C cb_1
    obtain ⟨C1,eC1⟩:∃ C1,cb_1 - k*C=C1:=⟨_,rfl⟩
    rw [eC1] at eZ
    have nV:∀ W,Below R1.heap.size R1 W→Nums .i64 W (.slice Z C C1) ((List.range C).map fun j=>VV.getD (k*C+j) 0):=fun W hW=>by
     have:=row_nums N C k HS.out.2.2.1 hkn o7.cap (o7.up hW).nums
     rw [eZ] at this
     exact this
    have rV:RI ((List.range C).map fun j=>VV.getD (k*C+j) 0):=fun y hy=>by
     obtain ⟨i,_,rfl⟩:=List.mem_map.1 hy
     exact getD_inR HS.out.2.2.2.2.2.2.1 _
    have wT:=total_in rV (by rw [List.length_map,List.length_range];omega)
    have eT:hold (totalI ((List.range C).map fun j=>VV.getD (k*C+j) 0))=sV.getD k 0:=by
     rw [HS.out.1,sumV_at a s x k (by rw [HS.out.2.2.2.2.2.1];exact hkn),HS.out.2.2.2.2.1]
     unfold sumN totalI
     rw [List.length_map,List.length_range]
     congr 1
     refine sumI_congr C fun j hj=>?_
     rw [getD_map_range _ _ _ _ hj,HS.out.2.2.2.1 k j hkn hj]
    have cTo:Hid (∀ W,Below R1.heap.size R1 W→Calls Tryz.prog 94 #[.slice Z C C1] W fun e w'=>e = .returned (wd (totalI ((List.range C).map fun j=>VV.getD (k*C+j) 0)))∧Below W.heap.size W w'):=fun W hW=>total_any Z C C1 _ rV (by omega) W (nV W hW)
    have cFx:∀ W,Calls Tryz.prog 93 #[wd (totalI ((List.range C).map fun j=>VV.getD (k*C+j) 0))] W fun e w'=>e = .returned (.int .i64 (hold (totalI ((List.range C).map fun j=>VV.getD (k*C+j) 0))))∧Below W.heap.size W w':=fun W=>fix_any _ wT W
    rw [eT] at cFx
    obtain ⟨th,tl,et,t1,t2,t3,t4,Ht⟩:=words wT
    rw [et] at cTo cFx
    obtain ⟨Y,eY⟩:∃ Y,sV.getD k 0=Y:=⟨_,rfl⟩
    rw [eY] at cFx
    have HY:Hid (sV.getD k 0=Y):=eY
    have hA0:k*C+C≤N*C:=by have:=Nat.mul_le_mul_right C (show k+1≤N by omega);rw [Nat.add_mul,Nat.one_mul] at this;exact this
    obtain ⟨A,eA⟩:∃ A,k*C=A:=⟨_,rfl⟩
    obtain ⟨B,eB⟩:∃ B,(k+1)*C=B:=⟨_,rfl⟩
    have eA':(k:Int)*(C:Int)=(A:Int):=by rw [← eA];push_cast;rfl
    have eB':((k:Int)+1)*(C:Int)=(B:Int):=by rw [← eB];push_cast;rfl
    have hAB:A+C=B:=by rw [← eA,← eB,Nat.add_mul,Nat.one_mul]
    have hcap:=o7.cap
    have hlen:VV.length=nb1:=by obtain ⟨_,_,_,e4,H⟩:=o7.nums.lst;cases e4;exact H.out.1
    have hBb:B≤4096∧B≤nb1:=by
     have h1:=HS.out.2.2.2.2.2.2.2.2.2
     have h2:=HS.out.2.2.1
     rw [eA] at hA0
     omega
    rw [eA,eB] at eZ
    have kc:=fun W=>cutF_lh pb1 nb1 cb_1 A B (by omega) (by omega) W
    rw [eZ] at kc
    have hBb':(B:Int)≤4096∧0≤(A:Int)∧(A:Int)≤4096:=by omega
    obtain ⟨s0,s1,_,_⟩:=x6
    have s9:=cell_lt s0
    have HO7:=HRk
    clear eT et wT rV nV eZ eC1 eY hA0 eA eB hcap hlen hBb o7 o6 xA xR
    go_wp2_with fail
    refine (cTo.out R1 (Below.refl _ _)).mono ?_
    rintro e w6 ⟨rfl,hB6⟩
    have HB6:Hid (Below R1.heap.size R1 w6):=hB6
    clear hB6 cTo
    go_wp2_with fail
    refine (cFx w6).mono ?_
    rintro e w7 ⟨rfl,hB7⟩
    have HB7:Below R1.heap.size R1 w7:=bstep HB6.out hB7
    have HR2:=HRk.out.up HB7
    obtain ⟨hown,hfz⟩:=HR2.cell (by rw [rowF_len];exact HS.out.2.1) k hkn
    have lt2:=cell_lt hown
    have H5:Hid (OwnK .i64 22 (w7.setCell ⟨g,k,none⟩ (.int .i64 Y)) g (.slice (some ⟨g,0,none⟩) N N) (rowF sV (k+1))):=by
     have:=HR2.store (by rw [rowF_len];exact HS.out.2.1) k Y
     rw [← HY.out,rowF_set sV k (by rw [HS.out.2.1];exact hkn)] at this
     rw [← HY.out]
     exact this
    have hgw:w.heap.size≤g:=by have:=Hg.out;omega
    have H6:Hid (Below w.heap.size w (w7.setCell ⟨g,k,none⟩ (.int .i64 Y))∧Stay g w4 (w7.setCell ⟨g,k,none⟩ (.int .i64 Y))):=⟨(bstep hBS.out.1 HB7).setCell (p:=⟨g,k,none⟩) hgw _,(hBS.out.2.up HB7).set _ _⟩
    clear hB7 HB7 HR2 cFx s0 s1 s9
    go_wp2
    go_roundg (N - (k+1))
    case measure=>omega
    case rel=>exact ⟨k+1,by omega,rfl,by first|rfl|simp,H5,H6⟩
   ·obtain rfl:k=N:=by omega
    have hfin:=HRk.out
    rw [← HS.out.2.1,rowF_full,HS.out.2.1] at hfin
    have hlen:(itl (lessN a s++[C])).length=na1:=by obtain ⟨_,_,_,e4,H⟩:=o6.nums.lst;cases e4;exact H.out.1
    have hln:(lessN a s).length=n':=by
     have h1:=HS.out.2.2.2.2.2.2.2.1
     have h2:=HS.out.2.2.2.2.2.2.2.2.1
     have h3:=Hn.out
     simp only [lessN,List.length_append,List.length_take,List.length_drop]
     omega
    rw [itl_len,List.length_append,List.length_singleton,hln] at hlen
    obtain ⟨Z,eZ⟩:=sliced_is pa1 0 n' ca_1
    have kc:=fun W=>cutI_h pa1 na1 ca_1 n' (by have:=o6.cap;omega) W
    rw [eZ] at kc
    rw [Nat.sub_zero,Nat.sub_zero] at kc
    have oD:OwnK .i64 3 R1 W0.heap.size (.slice Z n' ca_1) (itl (lessN a s)):=by
     have:=o6.cut n' (show n'≤na1 by omega)
     rw [eZ,Nat.sub_zero,Nat.sub_zero] at this
     have e:(itl (lessN a s++[C])).take n'=itl (lessN a s):=by
      unfold itl
      rw [List.map_append,List.take_left' (by rw [List.length_map];exact hln)]
     rw [e] at this
     exact this
    have HF:Hid (TRes (set2 R1 (w.heap.size+1) (.slice Z n' ca_1) (.slice (some ⟨g,0,none⟩) k k)) w.heap.size (.agg #[.slice Z n' ca_1,.slice (some ⟨g,0,none⟩) k k]) (itl (lessN a s)) sV∧Below w.heap.size w (set2 R1 (w.heap.size+1) (.slice Z n' ca_1) (.slice (some ⟨g,0,none⟩) k k))):=
     ⟨⟨_,_,rfl,(oD.stay (Stay.set2 _ _ _) (oD.off (by have:=Hg.out;omega))).low (by have:=Hg.out;omega),(hfin.stay (Stay.set2 _ _ _) (hfin.off (by have:=Hg.out;omega))).low (by have:=Hg.out;omega)⟩,below_cell hBS.out.1 _ (by omega) _ _⟩
    have cf:=xR.set (.slice Z n' ca_1) (.slice (some ⟨g,0,none⟩) k k)
    obtain ⟨a0,a1,_,_⟩:=xA
    obtain ⟨s0,s1,_,_⟩:=x6
    obtain ⟨r0,r1,r2,r3⟩:=xR
    obtain ⟨y0,y1,_,_⟩:=cf
    have a9:=cell_lt a0
    have s9:=cell_lt s0
    clear hfin o6 o7 oD eZ hlen hln
    go_wp2
    exact bodyPost_ret (v:=.tuple #[.agg #[.slice Z n' ca_1,.slice (some ⟨g,0,none⟩) k k],.int .i64 0]) (by simp [results,Tryz.results48,go_sem,y0,y1]) rfl ⟨_,rfl,HF.out⟩
 ·obtain ⟨k1,k2,k3,k4,k5,k6⟩:=sm_none hs
  rw [HE.out.2.2.2.2.1,HE.out.1] at k4 k5 k6
  have hE:E=1:=by rw [← HE.out.2.1];exact k4
  have hv1:sE=1:=by rw [← HM.out.1];exact k1
  have hv2:sD = []:=by rw [← HM.out.2.1];exact k2
  have hv3:sV = []:=by rw [← HM.out.2.2];exact k3
  subst hE hv1 hv2 hv3
  clear k1 k2 k3 k4 k5 k6 hs
  have xr:=XR.out.up HBz.out.2
  have BF:=below_cell HBz.out.1 (w.heap.size+1) (by omega) (.slice none 0 0) (.slice none 0 0)
  have cf:=xr.set (.slice none 0 0) (.slice none 0 0)
  obtain ⟨r0,r1,r2,r3⟩:=xr
  obtain ⟨y0,y1,_,_⟩:=cf
  go_wp2
  exact bodyPost_ret (v:=.tuple #[.agg #[.slice none 0 0,.slice none 0 0],.int .i64 1]) (by simp [results,Tryz.results48,go_sem,y0,y1]) rfl ⟨_,rfl,TRes.none _ _,BF⟩
end Go.Proofs.YtaiigfhicaelkabGreatDoor.Wd
