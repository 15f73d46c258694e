/- The law's net: the document's own of a net. · The law's alike: are two nets? · A net's text is read back as it: words that were joined are read again, numbers that were written likewise. Nothing of the program is named here. · ModelBack, reckoned: a good net's text is read back as it. · The code's plans: their steps, add. -/
import Derived.Test.YtiampagapgjedaaGreatDoorS22
import Derived.Laws.StructEq
import Derived.Test.YtiampagapgjedaaGreatDoorS04
import Derived.Lib.Strings
import Derived.Test.YtiampagapgjedaaGreatDoorS10
set_option linter.unusedVariables false
set_option linter.unusedSimpArgs false
set_option maxHeartbeats 16000000
set_option maxRecDepth 16000
namespace Go.Proofs.YtiampagapgjedaaGreatDoor.Wd
open Go.RowKit
/-- A slice of layers of the call's own, by its elements' type. -/
def LyE (e:TypeId) (W:World) (B:Nat) (v:Value) (ls:List Ly):Prop:=W.ownsRow B e 3 v ls.length (ls.flatMap lyC)
theorem LyE.rd {e:TypeId} {W:World} {B:Nat} {v:Value} {ls:List Ly} (h:LyE e W B v ls):∃ p c,v = .slice p ls.length c∧LyR 0 W p ls.length ls:=by
 have h':=h
 rcases h.2 with ⟨rfl,h0⟩|⟨g,cap,cur,rfl,hB,h5,h6⟩
 ·exact ⟨none,0,by rw [h0],rfl,fun i hi=>by omega⟩
 ·refine ⟨_,cap,rfl,rfl,fun i hi=>?_⟩
  have hc:∀ k,k < 3→∀ v,(lyC (lyA ls i))[k]?=some v→W.cell? ⟨g,0+i*3+k,none⟩=some v:=fun k hk v hv=>by
   have:=World.ownsRow.cells h' rfl (i*3+k) v ((lyC_at ls i k hi hk).trans hv)
   rw [addr_plus,← Nat.add_assoc] at this
   exact this
  exact ⟨g,0,rfl,hc 0 (by omega) _ rfl,hc 1 (by omega) _ rfl,hc 2 (by omega) _ rfl⟩
theorem LyE.up {e:TypeId} {W W':World} {B:Nat} {v:Value} {ls:List Ly} (h:LyE e W B v ls) (hB:Below W.heap.size W W'):LyE e W' B v ls:=owns_only (S:=[]) h (Only.of hB) (by simp)
theorem layT2:GT Tryz.prog 37 90 3 32:=⟨Tryz.underlying37,by kernel_rfl⟩
theorem alloc3 (w:World) (a b c:Obj):(((w.alloc a).alloc b).alloc c).heap[w.heap.size]?=some a∧(((w.alloc a).alloc b).alloc c).heap[w.heap.size+1]?=some b∧(((w.alloc a).alloc b).alloc c).heap[w.heap.size+2]?=some c∧Below w.heap.size w (((w.alloc a).alloc b).alloc c):=by
 have s1:(w.alloc a).heap.size=w.heap.size+1:=by simp
 have s2:((w.alloc a).alloc b).heap.size=w.heap.size+2:=by simp
 have h1:=heap_alloc_new w a
 have h2:=heap_alloc_new (w.alloc a) b
 have h3:=heap_alloc_new ((w.alloc a).alloc b) c
 rw [s1] at h2
 rw [s2] at h3
 refine ⟨?_,?_,h3,blit (blit (up_alloc _ _) _) _⟩
 ·rw [(up_alloc ((w.alloc a).alloc b) c).block _ (by omega),(up_alloc (w.alloc a) b).block _ (by omega)]
  exact h1
 ·rw [(up_alloc ((w.alloc a).alloc b) c).block _ (by omega)]
  exact h2
theorem take_lyC (ls:List Ly) (k:Nat) (hk:k < ls.length):(ls.take (k+1)).flatMap lyC=(ls.take k).flatMap lyC++[.string (lyA ls k).1,.int .i64 (lyA ls k).2.1,.int .i64 (lyA ls k).2.2]:=by
 have e:lyA ls k=ls[k]:=by unfold lyA;rw [List.getD_eq_getElem?_getD,List.getElem?_eq_getElem hk];rfl
 rw [List.take_succ_eq_append_getElem hk,List.flatMap_append,e]
 simp [lyC]
theorem net_any (p p2:Option Addr) (n c n2 c2:Nat) (ls:List Ly) (hbig:n2≤1073741823) (w:World) (hL:LyR 0 w p2 n2 ls):
  Calls Tryz.prog 17 #[.agg #[.slice p n c,.slice p2 n2 c2]] w fun e w'=>∃ p3 c3,e = .returned (.agg #[.slice p n c,.slice p3 n2 c3])∧LyE 90 w' w.heap.size (.slice p3 n2 c3) ls∧Below w.heap.size w w':=by
 haveI:Nonempty World:=⟨w⟩
 have HL:Hid (LyR 0 w p2 n2 ls):=hL
 clear hL
 go_enter Tryz.func17,Tryz.ntmps17
 go_wp2_with fail
 generalize hW0:World.alloc _ _=W0
 have HX:Hid (W0.heap[w.heap.size]?=some (.cells #[.slice p n c,.slice p2 n2 c2] 26 (0,0))∧W0.heap[w.heap.size+1]?=some (.cells #[.slice none 0 0,.slice none 0 0] 39 (0,0))∧W0.heap[w.heap.size+2]?=some (.cells #[.slice p n c,.slice none 0 0] 39 (0,0))∧Below w.heap.size w W0):=by
  rw [← hW0]
  exact alloc3 w _ _ _
 clear hW0
 go_loopg [4] n2 (fun gg v wr=>∃ (k:Nat) (vL:Value),k≤n2∧gg=n2 - k∧v = .int .i64 (k:Int)∧Hid (wr.heap[w.heap.size]?=some (.cells #[.slice p n c,.slice p2 n2 c2] 26 (0,0))∧wr.heap[w.heap.size+1]?=some (.cells #[.slice none 0 0,.slice none 0 0] 39 (0,0))∧wr.heap[w.heap.size+2]?=some (.cells #[.slice p n c,vL] 39 (0,0))∧Below w.heap.size w wr)∧Hid (wr.ownsRow w.heap.size 90 3 vL k ((ls.take k).flatMap lyC)))
 case atStart=>exact ⟨0,.slice none 0 0,by omega,by omega,rfl,HX,⟨rfl,.inl ⟨rfl,rfl⟩⟩⟩
 case round=>
  obtain ⟨k,vL,hk,hg,rfl,HI,HL9⟩:=hrel
  obtain ⟨pL,cL,rfl⟩:∃ pL cL,vL = .slice pL k cL:=by
   rcases HL9.out.2 with ⟨rfl,h0⟩|⟨g,cap,cur,rfl,_⟩
   ·exact ⟨none,0,by rw [h0]⟩
   ·exact ⟨_,_,rfl⟩
  obtain ⟨⟨b0,_⟩,⟨b1,_⟩⟩:=box_2 HI.out.1
  have kb1:=cell_size b1
  by_cases hkn:k < n2
  ·have hk':(k:Int) < (n2:Int):=by omega
   obtain ⟨q,o,rfl,c0,c1,c2'⟩:=(HL.out.up HI.out.2.2.2).2 k hkn
   have hlen:k < ls.length:=by rw [HL.out.1];exact hkn
   obtain ⟨l,el⟩:∃ l,lyA ls k=l:=⟨_,rfl⟩
   obtain ⟨s,a,b⟩:=l
   have HT:Hid ((ls.take (k+1)).flatMap lyC=(ls.take k).flatMap lyC++[.string s,.int .i64 a,.int .i64 b]):=by
    have:=take_lyC ls k hlen
    rw [el] at this
    exact this
   rw [el] at c0 c1 c2'
   have kc0:=cell_size c0
   have HRW:Hid (∀ z,Value.ownBlock (.slice pL k cL)=some z→z < wr.heap.size):=fun z hz'=>(World.ownsRow.lt HL9.out z hz').2
   have HZ9:Hid (w.heap.size≤wr.heap.size):=HI.out.2.2.2.size
   have HG:Hid (∀ W,wr.grownBy W (Value.ownBlock (.slice pL k cL))→Only [90] wr W∧Below w.heap.size w W):=fun W hW=>⟨grown_only HL9.out hW,Below.grown HI.out.2.2.2 hW HZ9.out fun k hk=>(World.ownsRow.lt HL9.out k hk).1⟩
   have HQ:Hid (∀ W,wr.grownBy W (Value.ownBlock (.slice pL k cL))→W.cell? ⟨w.heap.size+2,1,none⟩=some (.slice pL k cL)∧W.cell? ⟨w.heap.size,1,none⟩=some (.slice (some ⟨q,o,none⟩) n2 c2)∧W.cell? ⟨q,o+k*3,none⟩=some (.string s)∧W.cell? ⟨q,o+k*3+1,none⟩=some (.int .i64 a)∧W.cell? ⟨q,o+k*3+2,none⟩=some (.int .i64 b)):=fun W hW=>by
    obtain ⟨h1,h2⟩:=HG.out W hW
    obtain ⟨q',o',e,d0,d1,d2⟩:=(HL.out.up h2).2 k hkn
    cases e
    rw [el] at d0 d1 d2
    exact ⟨(box_2 (h1.keep HI.out.2.2.1 (by decide))).2.1,(box_2 (h1.keep HI.out.1 (by decide))).2.1,d0,d1,d2⟩
   clear el
   go_wp2
   refine from_region (by kernel_rfl) ?_
   refine seg (fun q W=>match q with|false=>Below wr.heap.size wr W|true=>wr.grownBy W (Value.ownBlock (.slice pL k cL))) (fun W W'=>W.grownBy W' (Value.ownBlock (.slice pL k cL))) 22 [⟨21,36,LitS 90 wr.heap.size [.string s,.int .i64 a,.int .i64 b]⟩,⟨22,37,OwnG 90 3 w.heap.size (k+1) (((ls.take k).flatMap lyC)++[.string s,.int .i64 a,.int .i64 b])⟩] 0 24 40 rfl rfl (by kernel_rfl) (by rfl) ?_ ?_ ?_ ?_ ?_ ?_
   ·intro q W W' h hb
    cases q
    ·exact bstep h hb
    ·exact grown_up h hb
   ·exact ⟨rfl,rfl,rfl,Nat.le_refl _,fun _ _=>rfl⟩
   ·exact .inl ⟨_,List.mem_cons_of_mem _ List.mem_cons_self,rfl⟩
   ·intro e he v W W' h hb
    simp only [List.mem_cons,List.not_mem_nil,or_false] at he
    rcases he with rfl|rfl
    ·exact LitS.up h hb
    ·exact OwnG.up h hb
   ·intro e he hne v W W' h hc ht
    simp only [List.mem_cons,List.not_mem_nil,or_false] at he
    rcases he with rfl|rfl
    ·exact LitS.grown h ht HRW.out
    ·exact absurd rfl hne
   apply Exists.intro
   refine ⟨fun x=>?_,?_,?_⟩
   ·simp only [List.drop_succ_cons,List.drop_zero,List.take_succ_cons,List.take_zero]
    refine segQuiet rfl rfl ?_
    apply Exists.intro
    refine ⟨fun b' F hF hf K hK=>?_,?_⟩
    ·have hFc:=hF.cls
     have q:=fun d=>HQ.out (F d) (by
      cases b'
      ·exact below_grown _ (hFc d)
      ·exact hFc d)
     have q1:=fun d=>(q d).1
     have q2:=fun d=>(q d).2.1
     have q3:=fun d=>(q d).2.2.1
     have q4:=fun d=>(q d).2.2.2.1
     have q5:=fun d=>(q d).2.2.2.2
     clear hFc q
     go_big_quiet_op
     first|exact hK|(apply Exists.intro;refine ⟨fun _=>?_,?_⟩;(· fail);exact hK)
    (try simp only [Act.put,List.setIfInBounds_toArray,List.set_cons_zero,List.set_cons_succ])
    refine segQuiet rfl rfl ?_
    apply Exists.intro
    refine ⟨fun b' F hF hf K hK=>?_,?_⟩
    ·have hFc:=hF.cls
     have q:=fun d=>HQ.out (F d) (by
      cases b'
      ·exact below_grown _ (hFc d)
      ·exact hFc d)
     have q1:=fun d=>(q d).1
     have q2:=fun d=>(q d).2.1
     have q3:=fun d=>(q d).2.2.1
     have q4:=fun d=>(q d).2.2.2.1
     have q5:=fun d=>(q d).2.2.2.2
     clear hFc q
     go_big_quiet_op
     first|exact hK|(apply Exists.intro;refine ⟨fun _=>?_,?_⟩;(· fail);exact hK)
    (try simp only [Act.put,List.setIfInBounds_toArray,List.set_cons_zero,List.set_cons_succ])
    refine segQuiet rfl rfl ?_
    apply Exists.intro
    refine ⟨fun b' F hF hf K hK=>?_,?_⟩
    ·have hFc:=hF.cls
     have q:=fun d=>HQ.out (F d) (by
      cases b'
      ·exact below_grown _ (hFc d)
      ·exact hFc d)
     have q1:=fun d=>(q d).1
     have q2:=fun d=>(q d).2.1
     have q3:=fun d=>(q d).2.2.1
     have q4:=fun d=>(q d).2.2.2.1
     have q5:=fun d=>(q d).2.2.2.2
     clear hFc q
     go_big_quiet_op
     first|exact hK|(apply Exists.intro;refine ⟨fun _=>?_,?_⟩;(· fail);exact hK)
    (try simp only [Act.put,List.setIfInBounds_toArray,List.set_cons_zero,List.set_cons_succ])
    refine segQuiet rfl rfl ?_
    apply Exists.intro
    refine ⟨fun b' F hF hf K hK=>?_,?_⟩
    ·have hFc:=hF.cls
     have q:=fun d=>HQ.out (F d) (by
      cases b'
      ·exact below_grown _ (hFc d)
      ·exact hFc d)
     have q1:=fun d=>(q d).1
     have q2:=fun d=>(q d).2.1
     have q3:=fun d=>(q d).2.2.1
     have q4:=fun d=>(q d).2.2.2.1
     have q5:=fun d=>(q d).2.2.2.2
     clear hFc q
     go_big_quiet_op
     first|exact hK|(apply Exists.intro;refine ⟨fun _=>?_,?_⟩;(· fail);exact hK)
    (try simp only [Act.put,List.setIfInBounds_toArray,List.set_cons_zero,List.set_cons_succ])
    refine segQuiet rfl rfl ?_
    apply Exists.intro
    refine ⟨fun b' F hF hf K hK=>?_,?_⟩
    ·have hFc:=hF.cls
     have q:=fun d=>HQ.out (F d) (by
      cases b'
      ·exact below_grown _ (hFc d)
      ·exact hFc d)
     have q1:=fun d=>(q d).1
     have q2:=fun d=>(q d).2.1
     have q3:=fun d=>(q d).2.2.1
     have q4:=fun d=>(q d).2.2.2.1
     have q5:=fun d=>(q d).2.2.2.2
     clear hFc q
     go_big_quiet_op
     first|exact hK|(apply Exists.intro;refine ⟨fun _=>?_,?_⟩;(· fail);exact hK)
    (try simp only [Act.put,List.setIfInBounds_toArray,List.set_cons_zero,List.set_cons_succ])
    refine segQuiet rfl rfl ?_
    apply Exists.intro
    refine ⟨fun b' F hF hf K hK=>?_,?_⟩
    ·have hFc:=hF.cls
     have q:=fun d=>HQ.out (F d) (by
      cases b'
      ·exact below_grown _ (hFc d)
      ·exact hFc d)
     have q1:=fun d=>(q d).1
     have q2:=fun d=>(q d).2.1
     have q3:=fun d=>(q d).2.2.1
     have q4:=fun d=>(q d).2.2.2.1
     have q5:=fun d=>(q d).2.2.2.2
     clear hFc q
     go_big_quiet_op
     first|exact hK|(apply Exists.intro;refine ⟨fun _=>?_,?_⟩;(· fail);exact hK)
    (try simp only [Act.put,List.setIfInBounds_toArray,List.set_cons_zero,List.set_cons_succ])
    refine segQuiet rfl rfl ?_
    apply Exists.intro
    refine ⟨fun b' F hF hf K hK=>?_,?_⟩
    ·have hFc:=hF.cls
     have q:=fun d=>HQ.out (F d) (by
      cases b'
      ·exact below_grown _ (hFc d)
      ·exact hFc d)
     have q1:=fun d=>(q d).1
     have q2:=fun d=>(q d).2.1
     have q3:=fun d=>(q d).2.2.1
     have q4:=fun d=>(q d).2.2.2.1
     have q5:=fun d=>(q d).2.2.2.2
     clear hFc q
     go_big_quiet_op
     first|exact hK|(apply Exists.intro;refine ⟨fun _=>?_,?_⟩;(· fail);exact hK)
    (try simp only [Act.put,List.setIfInBounds_toArray,List.set_cons_zero,List.set_cons_succ])
    refine segQuiet rfl rfl ?_
    apply Exists.intro
    refine ⟨fun b' F hF hf K hK=>?_,?_⟩
    ·have hFc:=hF.cls
     have q:=fun d=>HQ.out (F d) (by
      cases b'
      ·exact below_grown _ (hFc d)
      ·exact hFc d)
     have q1:=fun d=>(q d).1
     have q2:=fun d=>(q d).2.1
     have q3:=fun d=>(q d).2.2.1
     have q4:=fun d=>(q d).2.2.2.1
     have q5:=fun d=>(q d).2.2.2.2
     clear hFc q
     go_big_quiet_op
     first|exact hK|(apply Exists.intro;refine ⟨fun _=>?_,?_⟩;(· fail);exact hK)
    (try simp only [Act.put,List.setIfInBounds_toArray,List.set_cons_zero,List.set_cons_succ])
    refine segQuiet rfl rfl ?_
    apply Exists.intro
    refine ⟨fun b' F hF hf K hK=>?_,?_⟩
    ·have hFc:=hF.cls
     have q:=fun d=>HQ.out (F d) (by
      cases b'
      ·exact below_grown _ (hFc d)
      ·exact hFc d)
     have q1:=fun d=>(q d).1
     have q2:=fun d=>(q d).2.1
     have q3:=fun d=>(q d).2.2.1
     have q4:=fun d=>(q d).2.2.2.1
     have q5:=fun d=>(q d).2.2.2.2
     clear hFc q
     go_big_quiet_op
     first|exact hK|(apply Exists.intro;refine ⟨fun _=>?_,?_⟩;(· fail);exact hK)
    (try simp only [Act.put,List.setIfInBounds_toArray,List.set_cons_zero,List.set_cons_succ])
    refine segQuiet rfl rfl ?_
    apply Exists.intro
    refine ⟨fun b' F hF hf K hK=>?_,?_⟩
    ·have hFc:=hF.cls
     have q:=fun d=>HQ.out (F d) (by
      cases b'
      ·exact below_grown _ (hFc d)
      ·exact hFc d)
     have q1:=fun d=>(q d).1
     have q2:=fun d=>(q d).2.1
     have q3:=fun d=>(q d).2.2.1
     have q4:=fun d=>(q d).2.2.2.1
     have q5:=fun d=>(q d).2.2.2.2
     clear hFc q
     go_big_quiet_op
     first|exact hK|(apply Exists.intro;refine ⟨fun _=>?_,?_⟩;(· fail);exact hK)
    (try simp only [Act.put,List.setIfInBounds_toArray,List.set_cons_zero,List.set_cons_succ])
    refine segQuiet rfl rfl ?_
    apply Exists.intro
    refine ⟨fun b' F hF hf K hK=>?_,?_⟩
    ·have hFc:=hF.cls
     have q:=fun d=>HQ.out (F d) (by
      cases b'
      ·exact below_grown _ (hFc d)
      ·exact hFc d)
     have q1:=fun d=>(q d).1
     have q2:=fun d=>(q d).2.1
     have q3:=fun d=>(q d).2.2.1
     have q4:=fun d=>(q d).2.2.2.1
     have q5:=fun d=>(q d).2.2.2.2
     clear hFc q
     go_big_quiet_op
     first|exact hK|(apply Exists.intro;refine ⟨fun _=>?_,?_⟩;(· fail);exact hK)
    (try simp only [Act.put,List.setIfInBounds_toArray,List.set_cons_zero,List.set_cons_succ])
    refine segQuiet rfl rfl ?_
    apply Exists.intro
    refine ⟨fun b' F hF hf K hK=>?_,?_⟩
    ·have hFc:=hF.cls
     have q:=fun d=>HQ.out (F d) (by
      cases b'
      ·exact below_grown _ (hFc d)
      ·exact hFc d)
     have q1:=fun d=>(q d).1
     have q2:=fun d=>(q d).2.1
     have q3:=fun d=>(q d).2.2.1
     have q4:=fun d=>(q d).2.2.2.1
     have q5:=fun d=>(q d).2.2.2.2
     clear hFc q
     go_big_quiet_op
     first|exact hK|(apply Exists.intro;refine ⟨fun _=>?_,?_⟩;(· fail);exact hK)
    (try simp only [Act.put,List.setIfInBounds_toArray,List.set_cons_zero,List.set_cons_succ])
    refine segQuiet rfl rfl ?_
    apply Exists.intro
    refine ⟨fun b' F hF hf K hK=>?_,?_⟩
    ·have hFc:=hF.cls
     have q:=fun d=>HQ.out (F d) (by
      cases b'
      ·exact below_grown _ (hFc d)
      ·exact hFc d)
     have q1:=fun d=>(q d).1
     have q2:=fun d=>(q d).2.1
     have q3:=fun d=>(q d).2.2.1
     have q4:=fun d=>(q d).2.2.2.1
     have q5:=fun d=>(q d).2.2.2.2
     clear hFc q
     go_big_quiet_op
     first|exact hK|(apply Exists.intro;refine ⟨fun _=>?_,?_⟩;(· fail);exact hK)
    (try simp only [Act.put,List.setIfInBounds_toArray,List.set_cons_zero,List.set_cons_succ])
    refine segQuiet rfl rfl ?_
    apply Exists.intro
    refine ⟨fun b' F hF hf K hK=>?_,?_⟩
    ·have hFc:=hF.cls
     have q:=fun d=>HQ.out (F d) (by
      cases b'
      ·exact below_grown _ (hFc d)
      ·exact hFc d)
     have q1:=fun d=>(q d).1
     have q2:=fun d=>(q d).2.1
     have q3:=fun d=>(q d).2.2.1
     have q4:=fun d=>(q d).2.2.2.1
     have q5:=fun d=>(q d).2.2.2.2
     clear hFc q
     go_big_quiet_op
     first|exact hK|(apply Exists.intro;refine ⟨fun _=>?_,?_⟩;(· fail);exact hK)
    (try simp only [Act.put,List.setIfInBounds_toArray,List.set_cons_zero,List.set_cons_succ])
    refine segQuiet rfl rfl ?_
    apply Exists.intro
    refine ⟨fun b' F hF hf K hK=>?_,?_⟩
    ·have hFc:=hF.cls
     have q:=fun d=>HQ.out (F d) (by
      cases b'
      ·exact below_grown _ (hFc d)
      ·exact hFc d)
     have q1:=fun d=>(q d).1
     have q2:=fun d=>(q d).2.1
     have q3:=fun d=>(q d).2.2.1
     have q4:=fun d=>(q d).2.2.2.1
     have q5:=fun d=>(q d).2.2.2.2
     clear hFc q
     go_big_quiet_op
     first|exact hK|(apply Exists.intro;refine ⟨fun _=>?_,?_⟩;(· fail);exact hK)
    (try simp only [Act.put,List.setIfInBounds_toArray,List.set_cons_zero,List.set_cons_succ])
    refine segQuiet rfl rfl ?_
    apply Exists.intro
    refine ⟨fun b' F hF hf K hK=>?_,?_⟩
    ·have hFc:=hF.cls
     have q:=fun d=>HQ.out (F d) (by
      cases b'
      ·exact below_grown _ (hFc d)
      ·exact hFc d)
     have q1:=fun d=>(q d).1
     have q2:=fun d=>(q d).2.1
     have q3:=fun d=>(q d).2.2.1
     have q4:=fun d=>(q d).2.2.2.1
     have q5:=fun d=>(q d).2.2.2.2
     clear hFc q
     go_big_quiet_op
     first|exact hK|(apply Exists.intro;refine ⟨fun _=>?_,?_⟩;(· fail);exact hK)
    (try simp only [Act.put,List.setIfInBounds_toArray,List.set_cons_zero,List.set_cons_succ])
    refine segQuiet rfl rfl ?_
    apply Exists.intro
    refine ⟨fun b' F hF hf K hK=>?_,?_⟩
    ·have hFc:=hF.cls
     have q:=fun d=>HQ.out (F d) (by
      cases b'
      ·exact below_grown _ (hFc d)
      ·exact hFc d)
     have q1:=fun d=>(q d).1
     have q2:=fun d=>(q d).2.1
     have q3:=fun d=>(q d).2.2.1
     have q4:=fun d=>(q d).2.2.2.1
     have q5:=fun d=>(q d).2.2.2.2
     clear hFc q
     go_big_quiet_op
     first|exact hK|(apply Exists.intro;refine ⟨fun _=>?_,?_⟩;(· fail);exact hK)
    (try simp only [Act.put,List.setIfInBounds_toArray,List.set_cons_zero,List.set_cons_succ])
    refine segQuiet rfl rfl ?_
    apply Exists.intro
    refine ⟨fun b' F hF hf K hK=>?_,?_⟩
    ·have hFc:=hF.cls
     have q:=fun d=>HQ.out (F d) (by
      cases b'
      ·exact below_grown _ (hFc d)
      ·exact hFc d)
     have q1:=fun d=>(q d).1
     have q2:=fun d=>(q d).2.1
     have q3:=fun d=>(q d).2.2.1
     have q4:=fun d=>(q d).2.2.2.1
     have q5:=fun d=>(q d).2.2.2.2
     clear hFc q
     go_big_quiet_op
     first|exact hK|(apply Exists.intro;refine ⟨fun _=>?_,?_⟩;(· fail);exact hK)
    (try simp only [Act.put,List.setIfInBounds_toArray,List.set_cons_zero,List.set_cons_succ])
    refine segQuiet rfl rfl ?_
    apply Exists.intro
    refine ⟨fun b' F hF hf K hK=>?_,?_⟩
    ·have hFc:=hF.cls
     have q:=fun d=>HQ.out (F d) (by
      cases b'
      ·exact below_grown _ (hFc d)
      ·exact hFc d)
     have q1:=fun d=>(q d).1
     have q2:=fun d=>(q d).2.1
     have q3:=fun d=>(q d).2.2.1
     have q4:=fun d=>(q d).2.2.2.1
     have q5:=fun d=>(q d).2.2.2.2
     clear hFc q
     go_big_quiet_op
     first|exact hK|(apply Exists.intro;refine ⟨fun _=>?_,?_⟩;(· fail);exact hK)
    (try simp only [Act.put,List.setIfInBounds_toArray,List.set_cons_zero,List.set_cons_succ])
    refine segQuiet rfl rfl ?_
    apply Exists.intro
    refine ⟨fun b' F hF hf K hK=>?_,?_⟩
    ·have hFc:=hF.cls
     have q:=fun d=>HQ.out (F d) (by
      cases b'
      ·exact below_grown _ (hFc d)
      ·exact hFc d)
     have q1:=fun d=>(q d).1
     have q2:=fun d=>(q d).2.1
     have q3:=fun d=>(q d).2.2.1
     have q4:=fun d=>(q d).2.2.2.1
     have q5:=fun d=>(q d).2.2.2.2
     clear hFc q
     go_big_quiet_op
     first|exact hK|(apply Exists.intro;refine ⟨fun _=>?_,?_⟩;(· fail);exact hK)
    (try simp only [Act.put,List.setIfInBounds_toArray,List.set_cons_zero,List.set_cons_succ])
    refine segQuiet rfl rfl ?_
    apply Exists.intro
    refine ⟨fun b' F hF hf K hK=>?_,?_⟩
    ·have hFc:=hF.cls
     have q:=fun d=>HQ.out (F d) (by
      cases b'
      ·exact below_grown _ (hFc d)
      ·exact hFc d)
     have q1:=fun d=>(q d).1
     have q2:=fun d=>(q d).2.1
     have q3:=fun d=>(q d).2.2.1
     have q4:=fun d=>(q d).2.2.2.1
     have q5:=fun d=>(q d).2.2.2.2
     clear hFc q
     go_big_quiet_op
     first|exact hK|(apply Exists.intro;refine ⟨fun _=>?_,?_⟩;(· fail);exact hK)
    (try simp only [Act.put,List.setIfInBounds_toArray,List.set_cons_zero,List.set_cons_succ])
    refine segTold rfl (by decide) rfl ?_ ?_
    ·intro b' F hF hf d
     have hFc:=hF.cls
     have hcls:wr.heap.size≤(F d).heap.size:=by
      cases b'
      ·exact (hFc d).size
      ·exact (hFc d).size
     simp [yieldsR,yieldsUpon,go_sem]
     exact ⟨⟨(F d).heap.size,rfl,heap_alloc_new (F d) _,hcls⟩,up_alloc _ _⟩
    (try simp only [Act.put,List.setIfInBounds_toArray,List.set_cons_zero,List.set_cons_succ])
    refine segBusy rfl rfl rfl ?_ ?_
    ·intro W hW hf
     have h7:=hf _ List.mem_cons_self (by rfl) W
     obtain ⟨g7,e7,hg7,_⟩:=h7
     simp only [] at e7
     obtain ⟨g8,c8,w8,hr8,ho8,hgr8⟩:=appGr layT2 (by decide) (by decide) 37 W w.heap.size (.slice pL k cL) k ((ls.take k).flatMap lyC) (owns_only (S:=[]) HL9.out (Only.of hW) (by simp)) g7 [.string s,.int .i64 a,.int .i64 b] hg7 rfl (fun x hx=>by simp at hx;rcases hx with rfl|rfl|rfl <;> rfl) (by omega) (Nat.le_trans HZ9.out (Below.size hW))
     simp [leavesR,leavesUpon,execOp,resolve,invoke,builtin,Act.eval,e7,hr8,Result.andThen]
     exact ⟨⟨g8,c8,rfl,ho8⟩,grown_trans (below_grown _ hW) hgr8,hgr8⟩
    (try simp only [Act.put,List.setIfInBounds_toArray,List.set_cons_zero,List.set_cons_succ])
    refine segQuiet rfl rfl ?_
    apply Exists.intro
    refine ⟨fun b' F hF hf K hK=>?_,?_⟩
    ·have hFc:=hF.cls
     have q:=fun d=>HQ.out (F d) (by
      cases b'
      ·exact below_grown _ (hFc d)
      ·exact hFc d)
     have q1:=fun d=>(q d).1
     have q2:=fun d=>(q d).2.1
     have q3:=fun d=>(q d).2.2.1
     have q4:=fun d=>(q d).2.2.2.1
     have q5:=fun d=>(q d).2.2.2.2
     clear hFc q
     go_big_quiet_op
     first|exact hK|(apply Exists.intro;refine ⟨fun _=>?_,?_⟩;(· fail);exact hK)
    (try simp only [Act.put,List.setIfInBounds_toArray,List.set_cons_zero,List.set_cons_succ])
    refine segEnd ?_
    exact rfl
   ·exact fun x=>rfl
   ·intro w8 xs8 hC8 hf8
    refine from_list 24 (by kernel_rfl) ?_
    simp only [List.drop_succ_cons,List.drop_zero]
    have h8:=hf8 _ (List.mem_cons_of_mem _ List.mem_cons_self)
    obtain ⟨x5,e5⟩:∃ z,xs8 21=z:=⟨_,rfl⟩
    obtain ⟨x6,e6⟩:∃ z,xs8 22=z:=⟨_,rfl⟩
    simp only [e6] at h8
    simp only [e5,e6]
    obtain ⟨g8,c8,rfl,h8⟩:=h8
    have hO8:=HG.out w8 hC8
    have hv8:=hO8.1.keep HI.out.2.2.1 (by decide)
    obtain ⟨_,⟨r0,r1⟩⟩:=box_2 hv8
    have HF:Hid ((w8.setCell ⟨w.heap.size+2,1,none⟩ (.slice (some ⟨g8,0,none⟩) (k+1) c8)).heap[w.heap.size]?=some (.cells #[.slice p n c,.slice (some ⟨q,o,none⟩) n2 c2] 26 (0,0))∧(w8.setCell ⟨w.heap.size+2,1,none⟩ (.slice (some ⟨g8,0,none⟩) (k+1) c8)).heap[w.heap.size+1]?=some (.cells #[.slice none 0 0,.slice none 0 0] 39 (0,0))∧(w8.setCell ⟨w.heap.size+2,1,none⟩ (.slice (some ⟨g8,0,none⟩) (k+1) c8)).heap[w.heap.size+2]?=some (.cells #[.slice p n c,.slice (some ⟨g8,0,none⟩) (k+1) c8] 39 (0,0))∧Below w.heap.size w (w8.setCell ⟨w.heap.size+2,1,none⟩ (.slice (some ⟨g8,0,none⟩) (k+1) c8))):=by
     refine ⟨?_,?_,?_,hO8.2.setCell (p:=⟨w.heap.size+2,1,none⟩) (Nat.le_add_right _ _) _⟩
     ·rw [heap_set _ _ _ _ _ (by omega)]
      exact hO8.1.keep HI.out.1 (by decide)
     ·rw [heap_set _ _ _ _ _ (by omega)]
      exact hO8.1.keep HI.out.2.1 (by decide)
     ·rw [heap_setat hv8]
      rfl
    have HF2:Hid ((w8.setCell ⟨w.heap.size+2,1,none⟩ (.slice (some ⟨g8,0,none⟩) (k+1) c8)).ownsRow w.heap.size 90 3 (.slice (some ⟨g8,0,none⟩) (k+1) c8) (k+1) ((ls.take (k+1)).flatMap lyC)):=by
     show World.ownsRow _ _ _ _ _ _ _
     rw [HT.out]
     exact owns_only (S:=[39]) h8 (Only.set hv8 (by simp)) (by decide)
    clear hO8 hv8 h8 hf8 hC8 e5 e6
    go_wp2
    go_roundg (n2 - (k+1))
    case measure=>omega
    case rel=>exact ⟨k+1,_,by omega,rfl,by first|rfl|simp,HF,HF2⟩
  ·obtain rfl:k=n2:=by omega
   obtain ⟨⟨d0,d0'⟩,⟨d1,d1'⟩⟩:=box_2 HI.out.2.1
   obtain ⟨⟨f0,_⟩,⟨f1,_⟩⟩:=box_2 HI.out.2.2.1
   have kd:=cell_size d0
   have kf:=cell_size f0
   go_wp2
   generalize hU:World.setCell _ _ _=U
   obtain ⟨u0,u1,hBU,hOU⟩:=two_set HI.out.2.1 hU
   have HLF:LyE 90 U w.heap.size (.slice pL k cL) ls:=by
    have:=owns_only HL9.out hOU (by decide)
    rw [List.take_of_length_le (by rw [HL.out.1];exact Nat.le_refl _)] at this
    unfold LyE
    rw [HL.out.1]
    exact this
   exact bodyPost_ret (v:=.agg #[.slice p n c,.slice pL k cL]) (by simp [results,Tryz.results17,go_sem,u0,u1]) rfl ⟨_,_,rfl,HLF,hBU w _ (by omega) HI.out.2.2.2⟩
end Go.Proofs.YtiampagapgjedaaGreatDoor.Wd
namespace Go.Proofs.YtiampagapgjedaaGreatDoor.Wd
def okW (w:ByteArray):Prop:=w.data.toList≠[]∧∀ b∈w.data.toList,blankB b=false
def dgOk (n:Nat):Bool:=decide (numB (dgB (n:Int))=some (n:Int)) && (!(dgB (n:Int)).data.toList.isEmpty && (dgB (n:Int)).data.toList.all fun b=>!blankB b) && decide ((dgB (n:Int)).data.toList.length≤5)
theorem dg_all:(List.range 1025).all dgOk=true:=by decide +kernel
theorem dg_ok {x:Int} (h:0≤x∧x≤1024):numB (dgB x)=some x∧okW (dgB x)∧(dgB x).data.toList.length≤5:=by
 have:=List.all_eq_true.1 dg_all x.toNat (List.mem_range.2 (by omega))
 unfold dgOk at this
 rw [Int.toNat_of_nonneg h.1] at this
 simp only [Bool.and_eq_true,decide_eq_true_eq,Bool.not_eq_true',List.isEmpty_eq_false_iff,List.all_eq_true] at this
 exact ⟨this.1.1,⟨this.1.2.1,fun b hb=>this.1.2.2 b hb⟩,this.2⟩
theorem kind_w (s:ByteArray) (h:kindI s < 5):okW s∧numB s=none∧s.data.toList.length≤5:=by
 have key:∀ u:ByteArray,(!u.data.toList.isEmpty && u.data.toList.all fun b=>!blankB b)=true→okW u:=fun u hu=>by
  simp only [Bool.and_eq_true,Bool.not_eq_true',List.isEmpty_eq_false_iff,List.all_eq_true] at hu
  exact ⟨hu.1,fun b hb=>hu.2 b hb⟩
 rcases kind_cases s with ⟨rfl,e⟩|⟨rfl,e⟩|⟨rfl,e⟩|⟨rfl,e⟩|⟨rfl,e⟩|⟨_,e⟩
 ·exact ⟨key _ (by decide +kernel),by decide +kernel,by decide +kernel⟩
 ·exact ⟨key _ (by decide +kernel),by decide +kernel,by decide +kernel⟩
 ·exact ⟨key _ (by decide +kernel),by decide +kernel,by decide +kernel⟩
 ·exact ⟨key _ (by decide +kernel),by decide +kernel,by decide +kernel⟩
 ·exact ⟨key _ (by decide +kernel),by decide +kernel,by decide +kernel⟩
 ·omega
theorem lyW_ok {l:Ly} (h:LayOk l):∀ u∈lyW l,okW u∧u.data.toList.length≤5:=by
 intro u hu
 unfold lyW at hu
 rcases layOk_cases h with ⟨_,k,h1,h2⟩|⟨_,k,h1,h2⟩|⟨_,k,h1,h2⟩|⟨_,k,h1,h2⟩|⟨_,k,h1,h2⟩ <;> rw [k] at hu <;> simp at hu
 ·rcases hu with rfl|rfl
  ·exact ⟨(kind_w _ h.1).1,(kind_w _ h.1).2.2⟩
  ·exact (dg_ok (by omega)).2
 ·rcases hu with rfl|rfl|rfl
  ·exact ⟨(kind_w _ h.1).1,(kind_w _ h.1).2.2⟩
  ·exact (dg_ok (by omega)).2
  ·exact (dg_ok (by omega)).2
 ·rcases hu with rfl|rfl
  ·exact ⟨(kind_w _ h.1).1,(kind_w _ h.1).2.2⟩
  ·exact (dg_ok (by omega)).2
 ·rcases hu with rfl|rfl
  ·exact ⟨(kind_w _ h.1).1,(kind_w _ h.1).2.2⟩
  ·exact (dg_ok (by omega)).2
 ·subst hu
  exact ⟨(kind_w _ h.1).1,(kind_w _ h.1).2.2⟩
theorem in_rng {d:List Int} (h:InOk d):d.length≤2∧d≠[]∧∀ x∈d,0≤x∧x≤1024:=by
 rcases h with ⟨x,rfl,h⟩|⟨x,y,rfl,h,h2⟩
 ·simp;omega
 ·simp;omega
theorem netW_ok {d:List Int} {ls:List Ly} (hd:InOk d) (hl:∀ l∈ls,LayOk l):∀ w∈netW d ls,okW w∧w.data.toList.length≤5:=by
 intro w hw
 unfold netW at hw
 simp only [List.mem_cons,List.mem_append,List.mem_map,List.mem_flatMap] at hw
 rcases hw with rfl|⟨x,hx,rfl⟩|⟨l,hm,hx⟩
 ·exact ⟨⟨by simp [kIn],fun b hb=>by
   simp [kIn] at hb
   rcases hb with rfl|rfl <;> decide⟩,by simp [kIn]⟩
 ·exact (dg_ok ((in_rng hd).2.2 x hx)).2
 ·exact lyW_ok (hl l hm) w hx
end Go.Proofs.YtiampagapgjedaaGreatDoor.Wd
namespace Go.Proofs.YtiampagapgjedaaGreatDoor.Wd
open Go.RowKit
/-- What a run may change: nothing below B, and of the rest only blocks of a tape and of a plan. -/
abbrev S4:List TypeId:=[95,65,137,134]
abbrev S2:List TypeId:=[137,134]
structure Rn (B:Nat) (W W':World):Prop where
 bel:Below B W W'
 onl:Only S2 W W'
theorem Rn.refl (B:Nat) (W:World):Rn B W W:=⟨Below.refl _ _,Only.refl _ _⟩
theorem Rn.trans {B:Nat} {a b c:World} (h:Rn B a b) (h2:Rn B b c):Rn B a c:=⟨h.bel.trans h2.bel,h.onl.trans h2.onl⟩
theorem Rn.of {B:Nat} {a b:World} (hB:B≤a.heap.size) (h:Below a.heap.size a b):Rn B a b:=⟨h.mono hB,Only.of h⟩
theorem Rn.size {B:Nat} {a b:World} (h:Rn B a b):a.heap.size≤b.heap.size:=h.onl.1
structure R4 (B:Nat) (W W':World):Prop where
 bel:Below B W W'
 onl:Only S4 W W'
theorem R4.refl (B:Nat) (W:World):R4 B W W:=⟨Below.refl _ _,Only.refl _ _⟩
theorem R4.trans {B:Nat} {a b c:World} (h:R4 B a b) (h2:R4 B b c):R4 B a c:=⟨h.bel.trans h2.bel,h.onl.trans h2.onl⟩
theorem R4.of {B:Nat} {a b:World} (hB:B≤a.heap.size) (h:Below a.heap.size a b):R4 B a b:=⟨h.mono hB,Only.of h⟩
theorem R4.size {B:Nat} {a b:World} (h:R4 B a b):a.heap.size≤b.heap.size:=h.onl.1
theorem Rn.r4 {B:Nat} {a b:World} (h:Rn B a b):R4 B a b:=⟨h.bel,h.onl.more (by simp)⟩
/-- Numbers that a run leaves as they are. -/
def Kept (B:Nat) (W:World) (v:Value) (l:List Int):Prop:=∀ W',R4 B W W'→Nums .i64 W' v l
theorem Kept.up {B:Nat} {W W':World} {v:Value} {l:List Int} (h:Kept B W v l) (hR:Rn B W W'):Kept B W' v l:=fun W2 h2=>h W2 (hR.r4.trans h2)
theorem Kept.nums {B:Nat} {W:World} {v:Value} {l:List Int} (h:Kept B W v l):Nums .i64 W v l:=h W (R4.refl _ _)
theorem OwnK.kept {e:TypeId} {B B':Nat} {W:World} {v:Value} {l:List Int} (h:OwnK .i64 e W B' v l) (he:e∉S4):Kept B W v l:=fun W' hR=>(h.only hR.onl he).nums
theorem Kept.below {B:Nat} {w W:World} {v:Value} {l:List Int} (h:Nums .i64 w v l) (hB:w.heap.size≤B) (hW:Below B w W):Kept B W v l:=fun W' hR=>h.up ((hW.trans hR.bel).mono hB)
/-- A step of a plan. -/
structure Sp where
 op:Int
 a:Int
 b:Int
 k:Int
 D:List Int
 X:List Int
 par:Bool
def StC (B:Nat) (W:World) (st:Sp) (u:List Value):Prop:=∃ p n c p2 n2 c2,u = [.int .i64 st.op,.int .i64 st.a,.int .i64 st.b,.int .i64 st.k,.slice p n c,.slice p2 n2 c2,.bool st.par]∧Kept B W (.slice p n c) st.D∧Kept B W (.slice p2 n2 c2) st.X
def StsC (B:Nat) (W:World) (sts:List Sp) (xs:List Value):Prop:=xs.length=sts.length*7∧∀ i st,sts[i]?=some st→StC B W st ((xs.drop (i*7)).take 7)
theorem StC.up {B:Nat} {W W':World} {st:Sp} {u:List Value} (h:StC B W st u) (hR:Rn B W W'):StC B W' st u:=by
 obtain ⟨p,n,c,p2,n2,c2,e,h1,h2⟩:=h
 exact ⟨p,n,c,p2,n2,c2,e,h1.up hR,h2.up hR⟩
theorem StsC.up {B:Nat} {W W':World} {sts:List Sp} {xs:List Value} (h:StsC B W sts xs) (hR:Rn B W W'):StsC B W' sts xs:=⟨h.1,fun i st hi=>(h.2 i st hi).up hR⟩
theorem StC.len {B:Nat} {W:World} {st:Sp} {u:List Value} (h:StC B W st u):u.length=7:=by
 obtain ⟨p,n,c,p2,n2,c2,rfl,_⟩:=h
 rfl
theorem StC.one {B:Nat} {W:World} {st:Sp} {u:List Value} (h:StC B W st u):∀ x∈u,x.oneCell'=true:=by
 obtain ⟨p,n,c,p2,n2,c2,rfl,_⟩:=h
 intro x hx
 simp at hx
 rcases hx with rfl|rfl|rfl|rfl|rfl|rfl|rfl <;> rfl
theorem StsC.push {B:Nat} {W:World} {sts:List Sp} {xs:List Value} {st:Sp} {u:List Value} (h:StsC B W sts xs) (hu:StC B W st u):StsC B W (sts++[st]) (xs++u):=by
 refine ⟨by rw [List.length_append,List.length_append,h.1,hu.len];simp;omega,fun i s hi=>?_⟩
 rcases Nat.lt_or_ge i sts.length with h1|h1
 ·rw [List.getElem?_append_left h1] at hi
  have h2:=h.2 i s hi
  have h3:=h.1
  rw [List.drop_append_of_le_length (by omega),List.take_append_of_le_length (by rw [List.length_drop];omega)]
  exact h2
 ·have hi':i=sts.length:=by
   have:=(List.getElem?_eq_some_iff.1 hi).1
   simp at this
   omega
  subst hi'
  rw [List.getElem?_append_right (Nat.le_refl _)] at hi
  simp at hi
  subst hi
  rw [← h.1,List.drop_left,List.take_of_length_le (by rw [hu.len];exact Nat.le_refl _)]
  exact hu
theorem StsC.nil (B:Nat) (W:World):StsC B W [] []:=⟨rfl,fun i st h=>by simp at h⟩
/-- A plan under way; what its steps name lay there in the world Wa. -/
def PlanO (B:Nat) (Wa W:World) (pb:Nat) (sts:List Sp) (rest:List Int):Prop:=B≤pb∧Rn B Wa W∧∃ p n c p2 n2 c2 xs,W.heap[pb]?=some (.cells #[.slice p n c,.slice p2 n2 c2] 134 (0,0))∧W.ownsRow B 137 7 (.slice p n c) sts.length xs∧sts.length=n∧StsC B Wa sts xs∧Kept B Wa (.slice p2 n2 c2) rest∧n2≤c2∧rest.length=n2
theorem PlanO.up {B:Nat} {Wa W W':World} {pb:Nat} {sts:List Sp} {rest:List Int} (h:PlanO B Wa W pb sts rest) (hB:Below W.heap.size W W'):PlanO B Wa W' pb sts rest:=by
 obtain ⟨hb,hr,p,n,c,p2,n2,c2,xs,h1,h2,h3⟩:=h
 exact ⟨hb,hr.trans (Rn.of (Nat.le_trans hb (Nat.le_of_lt (heap_lt h1))) hB),p,n,c,p2,n2,c2,xs,(hB.block _ (heap_lt h1)).trans h1,owns_only (S:=[]) h2 (Only.of hB) (by simp),h3⟩
theorem PlanO.on {B:Nat} {Wa W:World} {pb:Nat} {sts:List Sp} {rest:List Int} (h:PlanO B Wa W pb sts rest):PlanO B W W pb sts rest:=by
 obtain ⟨hb,hr,p,n,c,p2,n2,c2,xs,h1,h2,h3,h4,h5,h6⟩:=h
 exact ⟨hb,Rn.refl _ _,p,n,c,p2,n2,c2,xs,h1,h2,h3,h4.up hr,h5.up hr,h6⟩
theorem PlanO.size {B:Nat} {Wa W:World} {pb:Nat} {sts:List Sp} {rest:List Int} (h:PlanO B Wa W pb sts rest):B≤W.heap.size:=by
 obtain ⟨hb,hr,p,n,c,p2,n2,c2,xs,h1,_⟩:=h
 exact Nat.le_trans hb (Nat.le_of_lt (heap_lt h1))
theorem stpT:GT Tryz.prog 96 137 7 88:=⟨Tryz.underlying96,by kernel_rfl⟩
theorem box_7 {W:World} {b:Nat} {v0 v1 v2 v3 v4 v5 v6:Value} {e:TypeId} (h:W.heap[b]?=some (.cells #[v0,v1,v2,v3,v4,v5,v6] e (0,0))):W.cell? ⟨b,0,none⟩=some v0∧W.cell? ⟨b,1,none⟩=some v1∧W.cell? ⟨b,2,none⟩=some v2∧W.cell? ⟨b,3,none⟩=some v3∧W.cell? ⟨b,4,none⟩=some v4∧W.cell? ⟨b,5,none⟩=some v5∧W.cell? ⟨b,6,none⟩=some v6:=by
 simp [World.cell?,h]
theorem own_ne {B n s b:Nat} {W:World} {v:Value} {xs:List Value} {e t:TypeId} {cs:Array Value} {fz:Nat×Nat} (h:W.ownsRow B e s v n xs) (hb:W.heap[b]?=some (.cells cs t fz)) (hne:e≠t):some b≠v.ownBlock:=by
 rcases h.2 with ⟨rfl,_⟩|⟨g,cap,cur,rfl,_,hc,_⟩
 ·intro h;cases h
 ·intro h
  cases h
  rw [hc] at hb
  cases hb
  exact hne rfl
theorem padd_any (B pb:Nat) (sts:List Sp) (rest:List Int) (hfew:sts.length≤200) (st:Sp) (p:Option Addr) (n c:Nat) (p2:Option Addr) (n2 c2:Nat) (wa w:World) (hP:PlanO B wa w pb sts rest) (h1:Kept B wa (.slice p n c) st.D) (h2:Kept B wa (.slice p2 n2 c2) st.X):
  Calls Tryz.prog 76 #[.pointer (some ⟨pb,0,none⟩),.agg #[.int .i64 st.op,.int .i64 st.a,.int .i64 st.b,.int .i64 st.k,.slice p n c,.slice p2 n2 c2,.bool st.par]] w fun e w'=>e = .returned (.int .i64 (sts.length:Int))∧PlanO B wa w' pb (sts++[st]) rest∧Rn B w w':=by
 obtain ⟨op,a,b,k,D,X,par⟩:=st
 simp only [] at h1 h2 ⊢
 obtain ⟨hBp,hra,pS,nS',cS,pR,nR,cR,xs,hb,ho,hn,hc,hk,hrc,hrl⟩:=hP
 have HRA:Hid (Rn B wa w):=hra
 have hzB:B≤w.heap.size:=Nat.le_trans hBp (Nat.le_of_lt (heap_lt hb))
 obtain ⟨N,eN⟩:∃ N,sts.length=N:=⟨_,rfl⟩
 rw [eN] at ho hn hfew ⊢
 subst hn
 have HP:Hid (B≤pb∧B≤w.heap.size∧w.heap[pb]?=some (.cells #[.slice pS N cS,.slice pR nR cR] 134 (0,0))∧w.ownsRow B 137 7 (.slice pS N cS) N xs∧StsC B wa sts xs∧sts.length=N):=⟨hBp,hzB,hb,ho,hc,eN⟩
 have HQ:Hid (Kept B wa (.slice pR nR cR) rest∧nR≤cR∧rest.length=nR):=⟨hk,hrc,hrl⟩
 have HS:Hid (Kept B wa (.slice p n c) D∧Kept B wa (.slice p2 n2 c2) X):=⟨h1,h2⟩
 clear hBp hb ho hc hk hrc hrl h1 h2 hzB eN hra
 go_enter Tryz.func76,Tryz.ntmps76
 go_wp2_with fail
 refine name_world (fun w6 hw6=>?_)
 have hB6:Below w.heap.size w w6:=by rw [hw6];exact up_alloc _ _
 have HN6:w6.heap[w.heap.size]?=some (.cells #[.int .i64 op,.int .i64 a,.int .i64 b,.int .i64 k,.slice p n c,.slice p2 n2 c2,.bool par] 137 (0,0)):=by rw [hw6];exact heap_alloc_new _ _
 have hR6:Rn B w w6:=Rn.of HP.out.2.1 hB6
 have HU6:Hid (StC B wa ⟨op,a,b,k,D,X,par⟩ [.int .i64 op,.int .i64 a,.int .i64 b,.int .i64 k,.slice p n c,.slice p2 n2 c2,.bool par]):=⟨_,_,_,_,_,_,rfl,HS.out.1,HS.out.2⟩
 have HP6:Hid (w6.heap[pb]?=some (.cells #[.slice pS N cS,.slice pR nR cR] 134 (0,0))∧w6.ownsRow B 137 7 (.slice pS N cS) N xs∧StsC B wa sts xs∧Kept B wa (.slice pR nR cR) rest∧Rn B w w6∧B≤w6.heap.size):=⟨(hB6.block _ (heap_lt HP.out.2.2.1)).trans HP.out.2.2.1,owns_only (S:=[]) HP.out.2.2.2.1 (Only.of hB6) (by simp),HP.out.2.2.2.2.1,HQ.out.1,hR6,Nat.le_trans HP.out.2.1 hB6.size⟩
 have HX6:Hid (w6.heap[w.heap.size]?=some (.cells #[.int .i64 op,.int .i64 a,.int .i64 b,.int .i64 k,.slice p n c,.slice p2 n2 c2,.bool par] 137 (0,0))∧some w.heap.size≠Value.ownBlock (.slice pS N cS)):=⟨HN6,fun h=>by have:=(World.ownsRow.lt HP.out.2.2.2.1 _ h.symm).2;omega⟩
 have HRW:Hid (∀ z,Value.ownBlock (.slice pS N cS)=some z→z < w6.heap.size):=fun z hz'=>Nat.lt_of_lt_of_le (World.ownsRow.lt HP.out.2.2.2.1 z hz').2 hB6.size
 have HU1:Hid (∀ z∈([.int .i64 op,.int .i64 a,.int .i64 b,.int .i64 k,.slice p n c,.slice p2 n2 c2,.bool par]:List Value),z.oneCell'=true):=HU6.out.one
 have HPN:Hid (some pb≠Value.ownBlock (.slice pS N cS)):=own_ne HP6.out.2.1 HP6.out.1 (by decide)
 clear hB6 HN6 hR6 hw6
 refine from_region (by kernel_rfl) ?_
 refine seg (fun q W=>match q with|false=>Below w6.heap.size w6 W|true=>w6.grownBy W (Value.ownBlock (.slice pS N cS))) (fun W W'=>W.grownBy W' (Value.ownBlock (.slice pS N cS))) 7 [⟨6,11,LitS 137 w6.heap.size [.int .i64 op,.int .i64 a,.int .i64 b,.int .i64 k,.slice p n c,.slice p2 n2 c2,.bool par]⟩,⟨7,12,OwnG 137 7 B (N+1) (xs++[.int .i64 op,.int .i64 a,.int .i64 b,.int .i64 k,.slice p n c,.slice p2 n2 c2,.bool par])⟩] 0 10 21 rfl rfl (by kernel_rfl) (by rfl) ?_ ?_ ?_ ?_ ?_ ?_
 ·intro q W W' h hb
  cases q
  ·exact bstep h hb
  ·exact grown_up h hb
 ·exact ⟨rfl,rfl,rfl,Nat.le_refl _,fun _ _=>rfl⟩
 ·exact .inl ⟨_,List.mem_cons_of_mem _ List.mem_cons_self,rfl⟩
 ·intro e he v W W' h hb
  simp only [List.mem_cons,List.not_mem_nil,or_false] at he
  rcases he with rfl|rfl
  ·exact LitS.up h hb
  ·exact OwnG.up h hb
 ·intro e he hne v W W' h hc ht
  simp only [List.mem_cons,List.not_mem_nil,or_false] at he
  rcases he with rfl|rfl
  ·exact LitS.grown h ht HRW.out
  ·exact absurd rfl hne
 apply Exists.intro
 refine ⟨fun x=>?_,?_,?_⟩
 ·simp only [List.drop_succ_cons,List.drop_zero,List.take_succ_cons,List.take_zero]
  iterate 4
   refine segQuiet rfl rfl ?_
   apply Exists.intro
   refine ⟨fun b' F hF hf K hK=>?_,?_⟩
   ·have hFc:=hF.cls
    go_big_quiet_op
    first|exact hK|(apply Exists.intro;refine ⟨fun _=>?_,?_⟩;(· fail);exact hK)
   (try simp only [Act.put,List.setIfInBounds_toArray,List.set_cons_zero,List.set_cons_succ])
  refine segQuiet rfl rfl ?_
  apply Exists.intro
  refine ⟨fun b' F hF hf K hK=>?_,?_⟩
  ·have hFc:=hF.cls
   have q0:∀ d,(F d).cell? ⟨pb,0,none⟩=some (.slice pS N cS):=fun d=>by
    have hK:w6.grownBy (F d) (Value.ownBlock (.slice pS N cS)):=by
     cases b'
     ·exact below_grown _ (hFc d)
     ·exact hFc d
    exact (box_2 ((hK.block _ (heap_lt HP6.out.1) HPN.out).trans HP6.out.1)).1.1
   clear hFc
   go_big_quiet_op
   first|exact hK|(apply Exists.intro;refine ⟨fun _=>?_,?_⟩;(· fail);exact hK)
  (try simp only [Act.put,List.setIfInBounds_toArray,List.set_cons_zero,List.set_cons_succ])
  refine segQuiet rfl rfl ?_
  apply Exists.intro
  refine ⟨fun b' F hF hf K hK=>?_,?_⟩
  ·have hFc:=hF.cls
   have q0:∀ d,(F d).heap[w.heap.size]?=some (.cells #[.int .i64 op,.int .i64 a,.int .i64 b,.int .i64 k,.slice p n c,.slice p2 n2 c2,.bool par] 137 (0,0)):=fun d=>by
    have hK:w6.grownBy (F d) (Value.ownBlock (.slice pS N cS)):=by
     cases b'
     ·exact below_grown _ (hFc d)
     ·exact hFc d
    exact (hK.block _ (heap_lt HX6.out.1) HX6.out.2).trans HX6.out.1
   have q1:=fun d=>(box_7 (q0 d)).1
   have q2:=fun d=>(box_7 (q0 d)).2.1
   have q3:=fun d=>(box_7 (q0 d)).2.2.1
   have q4:=fun d=>(box_7 (q0 d)).2.2.2.1
   have q5:=fun d=>(box_7 (q0 d)).2.2.2.2.1
   have q6:=fun d=>(box_7 (q0 d)).2.2.2.2.2.1
   have q7:=fun d=>(box_7 (q0 d)).2.2.2.2.2.2
   clear hFc q0
   go_big_quiet_op
   first|exact hK|(apply Exists.intro;refine ⟨fun _=>?_,?_⟩;(· fail);exact hK)
  (try simp only [Act.put,List.setIfInBounds_toArray,List.set_cons_zero,List.set_cons_succ])
  refine segTold rfl (by decide) rfl ?_ ?_
  ·intro b' F hF hf d
   have hFc:=hF.cls
   have hcls:w6.heap.size≤(F d).heap.size:=by
    cases b'
    ·exact (hFc d).size
    ·exact (hFc d).size
   simp [yieldsR,yieldsUpon,go_sem]
   exact ⟨⟨(F d).heap.size,rfl,heap_alloc_new (F d) _,hcls⟩,up_alloc _ _⟩
  (try simp only [Act.put,List.setIfInBounds_toArray,List.set_cons_zero,List.set_cons_succ])
  refine segBusy rfl rfl rfl ?_ ?_
  ·intro W hW hf
   have h7:=hf _ List.mem_cons_self (by rfl) W
   obtain ⟨g7,e7,hg7,_⟩:=h7
   simp only [] at e7
   obtain ⟨g8,c8,w8,hr8,ho8,hgr8⟩:=appGr stpT (by decide) (by decide) 96 W B (.slice pS N cS) N xs (owns_only (S:=[]) HP6.out.2.1 (Only.of hW) (by simp)) g7 _ hg7 rfl HU1.out (by omega) (Nat.le_trans HP6.out.2.2.2.2.2 (Below.size hW))
   simp [leavesR,leavesUpon,execOp,resolve,invoke,builtin,Act.eval,e7,hr8,Result.andThen]
   exact ⟨⟨g8,c8,rfl,ho8⟩,grown_trans (below_grown _ hW) hgr8,hgr8⟩
  iterate 2
   (try simp only [Act.put,List.setIfInBounds_toArray,List.set_cons_zero,List.set_cons_succ])
   refine segQuiet rfl rfl ?_
   apply Exists.intro
   refine ⟨fun b' F hF hf K hK=>?_,?_⟩
   ·have hFc:=hF.cls
    go_big_quiet_op
    first|exact hK|(apply Exists.intro;refine ⟨fun _=>?_,?_⟩;(· fail);exact hK)
  (try simp only [Act.put,List.setIfInBounds_toArray,List.set_cons_zero,List.set_cons_succ])
  refine segEnd ?_
  exact rfl
 ·exact fun x=>rfl
 ·intro w8 xs8 hC8 hf8
  refine from_list 10 (by kernel_rfl) ?_
  simp only [List.drop_succ_cons,List.drop_zero]
  have h8:=hf8 _ (List.mem_cons_of_mem _ List.mem_cons_self)
  obtain ⟨x6,e6⟩:∃ z,xs8 6=z:=⟨_,rfl⟩
  obtain ⟨x7,e7⟩:∃ z,xs8 7=z:=⟨_,rfl⟩
  simp only [e7] at h8
  simp only [e6,e7]
  obtain ⟨g8,c8,rfl,h8⟩:=h8
  have hC8':w6.grownBy w8 (Value.ownBlock (.slice pS N cS)):=hC8
  have hO8:Only S2 w6 w8:=(grown_only HP6.out.2.1 hC8').more (by simp)
  have hR8:Rn B w6 w8:=⟨Below.grown (Below.refl _ _) hC8' HP6.out.2.2.2.2.2 fun z hz=>(World.ownsRow.lt HP6.out.2.1 z hz).1,hO8⟩
  have hv8:=(hC8'.block _ (heap_lt HP6.out.1) HPN.out).trans HP6.out.1
  have hR9:Rn B w6 (w8.setCell ⟨pb,0,none⟩ (.slice (some ⟨g8,0,none⟩) (N+1) c8)):=hR8.trans ⟨(Below.refl _ _).setCell (p:=⟨pb,0,none⟩) HP.out.1 _,Only.set hv8 (by simp)⟩
  obtain ⟨⟨r0,r1⟩,_⟩:=box_2 hv8
  have hv9:(w8.setCell ⟨pb,0,none⟩ (.slice (some ⟨g8,0,none⟩) (N+1) c8)).heap[pb]?=some (.cells #[.slice (some ⟨g8,0,none⟩) (N+1) c8,.slice pR nR cR] 134 (0,0)):=by
   rw [heap_setat hv8]
   rfl
  have z0:=(box_2 hv9).1.1
  have HF:Hid (PlanO B wa (w8.setCell ⟨pb,0,none⟩ (.slice (some ⟨g8,0,none⟩) (N+1) c8)) pb (sts++[⟨op,a,b,k,D,X,par⟩]) rest∧Rn B w (w8.setCell ⟨pb,0,none⟩ (.slice (some ⟨g8,0,none⟩) (N+1) c8))):=by
   refine ⟨⟨HP.out.1,HRA.out.trans (HP6.out.2.2.2.2.1.trans hR9),_,_,_,_,_,_,_,hv9,?_,by rw [List.length_append,HP.out.2.2.2.2.2];rfl,HP6.out.2.2.1.push HU6.out,HP6.out.2.2.2.1,HQ.out.2⟩,HP6.out.2.2.2.2.1.trans hR9⟩
   rw [List.length_append,HP.out.2.2.2.2.2]
   exact owns_only (S:=[134]) h8 (Only.set hv8 (by simp)) (by decide)
  have hN1:((N+1:Nat):Int) - 1=(N:Int):=by omega
  have hN2:wrap64 (N:Int)=(N:Int):=by unfold wrap64;omega
  clear hC8 hC8' hO8 hR8 hR9 hv8 hv9 h8 hf8 e6 e7
  go_wp2
  exact bodyPost_ret (v:=.int .i64 (N:Int)) (by simp [results,Tryz.results76,go_sem,hN1,hN2]) rfl ⟨rfl,HF.out⟩
end Go.Proofs.YtiampagapgjedaaGreatDoor.Wd
