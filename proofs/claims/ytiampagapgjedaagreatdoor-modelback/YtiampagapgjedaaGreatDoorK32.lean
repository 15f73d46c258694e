/- The law's net: the document's own of a net. · The law's alike: are two nets? · A net's text is read back as it: words that were joined are read again, numbers that were written likewise. Nothing of the program is named here. · ModelBack, reckoned: a good net's text is read back as it. · A struct of two slices of integers that came in by value (a tensor): what a walk is told of it. Nothing of the program is named here. · A slice of calls that came in (structs of four integers and a tensor): what a walk is told of it. Nothing of the program is named here. · A net that came in by value (a slice o -/
import Derived.Test.YtiampagapgjedaaGreatDoorK28
import Derived.Laws.StructEq
import Derived.Test.YtiampagapgjedaaGreatDoorK04
import Derived.Lib.Strings
import Derived.Test.YtiampagapgjedaaGreatDoorK00
import Derived.Lib.SmallJoins
import Derived.Deep.Slices
import Derived.ChangeSame
import Derived.Test.YtiampagapgjedaaGreatDoorK03
set_option linter.unusedVariables false
set_option linter.unusedSimpArgs false
set_option maxHeartbeats 16000000
set_option maxRecDepth 16000
namespace Go.Proofs.YtiampagapgjedaaGreatDoor.Wd
open Go.RowKit
/-- A slice of layers of the call's own, by its elements' type. -/
def LyE (e:TypeId) (W:World) (B:Nat) (v:Value) (ls:List Ly):Prop:=W.ownsRow B e 3 v ls.length (ls.flatMap lyC)
theorem LyE.rd {e:TypeId} {W:World} {B:Nat} {v:Value} {ls:List Ly} (h:LyE e W B v ls):∃ p c,v = .slice p ls.length c∧LyR 0 W p ls.length ls:=by
 have h':=h
 rcases h.2 with ⟨rfl,h0⟩|⟨g,cap,cur,rfl,hB,h5,h6⟩
 ·exact ⟨none,0,by rw [h0],rfl,fun i hi=>by omega⟩
 ·refine ⟨_,cap,rfl,rfl,fun i hi=>?_⟩
  have hc:∀ k,k < 3→∀ v,(lyC (lyA ls i))[k]?=some v→W.cell? ⟨g,0+i*3+k,none⟩=some v:=fun k hk v hv=>by
   have:=World.ownsRow.cells h' rfl (i*3+k) v ((lyC_at ls i k hi hk).trans hv)
   rw [addr_plus,← Nat.add_assoc] at this
   exact this
  exact ⟨g,0,rfl,hc 0 (by omega) _ rfl,hc 1 (by omega) _ rfl,hc 2 (by omega) _ rfl⟩
theorem LyE.up {e:TypeId} {W W':World} {B:Nat} {v:Value} {ls:List Ly} (h:LyE e W B v ls) (hB:Below W.heap.size W W'):LyE e W' B v ls:=owns_only (S:=[]) h (Only.of hB) (by simp)
theorem layT2:GT Tryz.prog 37 90 3 32:=⟨Tryz.underlying37,by kernel_rfl⟩
theorem alloc3 (w:World) (a b c:Obj):(((w.alloc a).alloc b).alloc c).heap[w.heap.size]?=some a∧(((w.alloc a).alloc b).alloc c).heap[w.heap.size+1]?=some b∧(((w.alloc a).alloc b).alloc c).heap[w.heap.size+2]?=some c∧Below w.heap.size w (((w.alloc a).alloc b).alloc c):=by
 have s1:(w.alloc a).heap.size=w.heap.size+1:=by simp
 have s2:((w.alloc a).alloc b).heap.size=w.heap.size+2:=by simp
 have h1:=heap_alloc_new w a
 have h2:=heap_alloc_new (w.alloc a) b
 have h3:=heap_alloc_new ((w.alloc a).alloc b) c
 rw [s1] at h2
 rw [s2] at h3
 refine ⟨?_,?_,h3,blit (blit (up_alloc _ _) _) _⟩
 ·rw [(up_alloc ((w.alloc a).alloc b) c).block _ (by omega),(up_alloc (w.alloc a) b).block _ (by omega)]
  exact h1
 ·rw [(up_alloc ((w.alloc a).alloc b) c).block _ (by omega)]
  exact h2
theorem take_lyC (ls:List Ly) (k:Nat) (hk:k < ls.length):(ls.take (k+1)).flatMap lyC=(ls.take k).flatMap lyC++[.string (lyA ls k).1,.int .i64 (lyA ls k).2.1,.int .i64 (lyA ls k).2.2]:=by
 have e:lyA ls k=ls[k]:=by unfold lyA;rw [List.getD_eq_getElem?_getD,List.getElem?_eq_getElem hk];rfl
 rw [List.take_succ_eq_append_getElem hk,List.flatMap_append,e]
 simp [lyC]
theorem net_any (p p2:Option Addr) (n c n2 c2:Nat) (ls:List Ly) (hbig:n2≤1073741823) (w:World) (hL:LyR 0 w p2 n2 ls):
  Calls Tryz.prog 17 #[.agg #[.slice p n c,.slice p2 n2 c2]] w fun e w'=>∃ p3 c3,e = .returned (.agg #[.slice p n c,.slice p3 n2 c3])∧LyE 90 w' w.heap.size (.slice p3 n2 c3) ls∧Below w.heap.size w w':=by
 haveI:Nonempty World:=⟨w⟩
 have HL:Hid (LyR 0 w p2 n2 ls):=hL
 clear hL
 go_enter Tryz.func17,Tryz.ntmps17
 go_wp2_with fail
 generalize hW0:World.alloc _ _=W0
 have HX:Hid (W0.heap[w.heap.size]?=some (.cells #[.slice p n c,.slice p2 n2 c2] 26 (0,0))∧W0.heap[w.heap.size+1]?=some (.cells #[.slice none 0 0,.slice none 0 0] 39 (0,0))∧W0.heap[w.heap.size+2]?=some (.cells #[.slice p n c,.slice none 0 0] 39 (0,0))∧Below w.heap.size w W0):=by
  rw [← hW0]
  exact alloc3 w _ _ _
 clear hW0
 go_loopg [4] n2 (fun gg v wr=>∃ (k:Nat) (vL:Value),k≤n2∧gg=n2 - k∧v = .int .i64 (k:Int)∧Hid (wr.heap[w.heap.size]?=some (.cells #[.slice p n c,.slice p2 n2 c2] 26 (0,0))∧wr.heap[w.heap.size+1]?=some (.cells #[.slice none 0 0,.slice none 0 0] 39 (0,0))∧wr.heap[w.heap.size+2]?=some (.cells #[.slice p n c,vL] 39 (0,0))∧Below w.heap.size w wr)∧Hid (wr.ownsRow w.heap.size 90 3 vL k ((ls.take k).flatMap lyC)))
 case atStart=>exact ⟨0,.slice none 0 0,by omega,by omega,rfl,HX,⟨rfl,.inl ⟨rfl,rfl⟩⟩⟩
 case round=>
  obtain ⟨k,vL,hk,hg,rfl,HI,HL9⟩:=hrel
  obtain ⟨pL,cL,rfl⟩:∃ pL cL,vL = .slice pL k cL:=by
   rcases HL9.out.2 with ⟨rfl,h0⟩|⟨g,cap,cur,rfl,_⟩
   ·exact ⟨none,0,by rw [h0]⟩
   ·exact ⟨_,_,rfl⟩
  obtain ⟨⟨b0,_⟩,⟨b1,_⟩⟩:=box_2 HI.out.1
  have kb1:=cell_size b1
  by_cases hkn:k < n2
  ·have hk':(k:Int) < (n2:Int):=by omega
   obtain ⟨q,o,rfl,c0,c1,c2'⟩:=(HL.out.up HI.out.2.2.2).2 k hkn
   have hlen:k < ls.length:=by rw [HL.out.1];exact hkn
   obtain ⟨l,el⟩:∃ l,lyA ls k=l:=⟨_,rfl⟩
   obtain ⟨s,a,b⟩:=l
   have HT:Hid ((ls.take (k+1)).flatMap lyC=(ls.take k).flatMap lyC++[.string s,.int .i64 a,.int .i64 b]):=by
    have:=take_lyC ls k hlen
    rw [el] at this
    exact this
   rw [el] at c0 c1 c2'
   have kc0:=cell_size c0
   have HRW:Hid (∀ z,Value.ownBlock (.slice pL k cL)=some z→z < wr.heap.size):=fun z hz'=>(World.ownsRow.lt HL9.out z hz').2
   have HZ9:Hid (w.heap.size≤wr.heap.size):=HI.out.2.2.2.size
   have HG:Hid (∀ W,wr.grownBy W (Value.ownBlock (.slice pL k cL))→Only [90] wr W∧Below w.heap.size w W):=fun W hW=>⟨grown_only HL9.out hW,Below.grown HI.out.2.2.2 hW HZ9.out fun k hk=>(World.ownsRow.lt HL9.out k hk).1⟩
   have HQ:Hid (∀ W,wr.grownBy W (Value.ownBlock (.slice pL k cL))→W.cell? ⟨w.heap.size+2,1,none⟩=some (.slice pL k cL)∧W.cell? ⟨w.heap.size,1,none⟩=some (.slice (some ⟨q,o,none⟩) n2 c2)∧W.cell? ⟨q,o+k*3,none⟩=some (.string s)∧W.cell? ⟨q,o+k*3+1,none⟩=some (.int .i64 a)∧W.cell? ⟨q,o+k*3+2,none⟩=some (.int .i64 b)):=fun W hW=>by
    obtain ⟨h1,h2⟩:=HG.out W hW
    obtain ⟨q',o',e,d0,d1,d2⟩:=(HL.out.up h2).2 k hkn
    cases e
    rw [el] at d0 d1 d2
    exact ⟨(box_2 (h1.keep HI.out.2.2.1 (by decide))).2.1,(box_2 (h1.keep HI.out.1 (by decide))).2.1,d0,d1,d2⟩
   clear el
   go_wp2
   refine from_region (by kernel_rfl) ?_
   refine seg (fun q W=>match q with|false=>Below wr.heap.size wr W|true=>wr.grownBy W (Value.ownBlock (.slice pL k cL))) (fun W W'=>W.grownBy W' (Value.ownBlock (.slice pL k cL))) 22 [⟨21,36,LitS 90 wr.heap.size [.string s,.int .i64 a,.int .i64 b]⟩,⟨22,37,OwnG 90 3 w.heap.size (k+1) (((ls.take k).flatMap lyC)++[.string s,.int .i64 a,.int .i64 b])⟩] 0 24 40 rfl rfl (by kernel_rfl) (by rfl) ?_ ?_ ?_ ?_ ?_ ?_
   ·intro q W W' h hb
    cases q
    ·exact bstep h hb
    ·exact grown_up h hb
   ·exact ⟨rfl,rfl,rfl,Nat.le_refl _,fun _ _=>rfl⟩
   ·exact .inl ⟨_,List.mem_cons_of_mem _ List.mem_cons_self,rfl⟩
   ·intro e he v W W' h hb
    simp only [List.mem_cons,List.not_mem_nil,or_false] at he
    rcases he with rfl|rfl
    ·exact LitS.up h hb
    ·exact OwnG.up h hb
   ·intro e he hne v W W' h hc ht
    simp only [List.mem_cons,List.not_mem_nil,or_false] at he
    rcases he with rfl|rfl
    ·exact LitS.grown h ht HRW.out
    ·exact absurd rfl hne
   apply Exists.intro
   refine ⟨fun x=>?_,?_,?_⟩
   ·simp only [List.drop_succ_cons,List.drop_zero,List.take_succ_cons,List.take_zero]
    refine segQuiet rfl rfl ?_
    apply Exists.intro
    refine ⟨fun b' F hF hf K hK=>?_,?_⟩
    ·have hFc:=hF.cls
     have q:=fun d=>HQ.out (F d) (by
      cases b'
      ·exact below_grown _ (hFc d)
      ·exact hFc d)
     have q1:=fun d=>(q d).1
     have q2:=fun d=>(q d).2.1
     have q3:=fun d=>(q d).2.2.1
     have q4:=fun d=>(q d).2.2.2.1
     have q5:=fun d=>(q d).2.2.2.2
     clear hFc q
     go_big_quiet_op
     first|exact hK|(apply Exists.intro;refine ⟨fun _=>?_,?_⟩;(· fail);exact hK)
    (try simp only [Act.put,List.setIfInBounds_toArray,List.set_cons_zero,List.set_cons_succ])
    refine segQuiet rfl rfl ?_
    apply Exists.intro
    refine ⟨fun b' F hF hf K hK=>?_,?_⟩
    ·have hFc:=hF.cls
     have q:=fun d=>HQ.out (F d) (by
      cases b'
      ·exact below_grown _ (hFc d)
      ·exact hFc d)
     have q1:=fun d=>(q d).1
     have q2:=fun d=>(q d).2.1
     have q3:=fun d=>(q d).2.2.1
     have q4:=fun d=>(q d).2.2.2.1
     have q5:=fun d=>(q d).2.2.2.2
     clear hFc q
     go_big_quiet_op
     first|exact hK|(apply Exists.intro;refine ⟨fun _=>?_,?_⟩;(· fail);exact hK)
    (try simp only [Act.put,List.setIfInBounds_toArray,List.set_cons_zero,List.set_cons_succ])
    refine segQuiet rfl rfl ?_
    apply Exists.intro
    refine ⟨fun b' F hF hf K hK=>?_,?_⟩
    ·have hFc:=hF.cls
     have q:=fun d=>HQ.out (F d) (by
      cases b'
      ·exact below_grown _ (hFc d)
      ·exact hFc d)
     have q1:=fun d=>(q d).1
     have q2:=fun d=>(q d).2.1
     have q3:=fun d=>(q d).2.2.1
     have q4:=fun d=>(q d).2.2.2.1
     have q5:=fun d=>(q d).2.2.2.2
     clear hFc q
     go_big_quiet_op
     first|exact hK|(apply Exists.intro;refine ⟨fun _=>?_,?_⟩;(· fail);exact hK)
    (try simp only [Act.put,List.setIfInBounds_toArray,List.set_cons_zero,List.set_cons_succ])
    refine segQuiet rfl rfl ?_
    apply Exists.intro
    refine ⟨fun b' F hF hf K hK=>?_,?_⟩
    ·have hFc:=hF.cls
     have q:=fun d=>HQ.out (F d) (by
      cases b'
      ·exact below_grown _ (hFc d)
      ·exact hFc d)
     have q1:=fun d=>(q d).1
     have q2:=fun d=>(q d).2.1
     have q3:=fun d=>(q d).2.2.1
     have q4:=fun d=>(q d).2.2.2.1
     have q5:=fun d=>(q d).2.2.2.2
     clear hFc q
     go_big_quiet_op
     first|exact hK|(apply Exists.intro;refine ⟨fun _=>?_,?_⟩;(· fail);exact hK)
    (try simp only [Act.put,List.setIfInBounds_toArray,List.set_cons_zero,List.set_cons_succ])
    refine segQuiet rfl rfl ?_
    apply Exists.intro
    refine ⟨fun b' F hF hf K hK=>?_,?_⟩
    ·have hFc:=hF.cls
     have q:=fun d=>HQ.out (F d) (by
      cases b'
      ·exact below_grown _ (hFc d)
      ·exact hFc d)
     have q1:=fun d=>(q d).1
     have q2:=fun d=>(q d).2.1
     have q3:=fun d=>(q d).2.2.1
     have q4:=fun d=>(q d).2.2.2.1
     have q5:=fun d=>(q d).2.2.2.2
     clear hFc q
     go_big_quiet_op
     first|exact hK|(apply Exists.intro;refine ⟨fun _=>?_,?_⟩;(· fail);exact hK)
    (try simp only [Act.put,List.setIfInBounds_toArray,List.set_cons_zero,List.set_cons_succ])
    refine segQuiet rfl rfl ?_
    apply Exists.intro
    refine ⟨fun b' F hF hf K hK=>?_,?_⟩
    ·have hFc:=hF.cls
     have q:=fun d=>HQ.out (F d) (by
      cases b'
      ·exact below_grown _ (hFc d)
      ·exact hFc d)
     have q1:=fun d=>(q d).1
     have q2:=fun d=>(q d).2.1
     have q3:=fun d=>(q d).2.2.1
     have q4:=fun d=>(q d).2.2.2.1
     have q5:=fun d=>(q d).2.2.2.2
     clear hFc q
     go_big_quiet_op
     first|exact hK|(apply Exists.intro;refine ⟨fun _=>?_,?_⟩;(· fail);exact hK)
    (try simp only [Act.put,List.setIfInBounds_toArray,List.set_cons_zero,List.set_cons_succ])
    refine segQuiet rfl rfl ?_
    apply Exists.intro
    refine ⟨fun b' F hF hf K hK=>?_,?_⟩
    ·have hFc:=hF.cls
     have q:=fun d=>HQ.out (F d) (by
      cases b'
      ·exact below_grown _ (hFc d)
      ·exact hFc d)
     have q1:=fun d=>(q d).1
     have q2:=fun d=>(q d).2.1
     have q3:=fun d=>(q d).2.2.1
     have q4:=fun d=>(q d).2.2.2.1
     have q5:=fun d=>(q d).2.2.2.2
     clear hFc q
     go_big_quiet_op
     first|exact hK|(apply Exists.intro;refine ⟨fun _=>?_,?_⟩;(· fail);exact hK)
    (try simp only [Act.put,List.setIfInBounds_toArray,List.set_cons_zero,List.set_cons_succ])
    refine segQuiet rfl rfl ?_
    apply Exists.intro
    refine ⟨fun b' F hF hf K hK=>?_,?_⟩
    ·have hFc:=hF.cls
     have q:=fun d=>HQ.out (F d) (by
      cases b'
      ·exact below_grown _ (hFc d)
      ·exact hFc d)
     have q1:=fun d=>(q d).1
     have q2:=fun d=>(q d).2.1
     have q3:=fun d=>(q d).2.2.1
     have q4:=fun d=>(q d).2.2.2.1
     have q5:=fun d=>(q d).2.2.2.2
     clear hFc q
     go_big_quiet_op
     first|exact hK|(apply Exists.intro;refine ⟨fun _=>?_,?_⟩;(· fail);exact hK)
    (try simp only [Act.put,List.setIfInBounds_toArray,List.set_cons_zero,List.set_cons_succ])
    refine segQuiet rfl rfl ?_
    apply Exists.intro
    refine ⟨fun b' F hF hf K hK=>?_,?_⟩
    ·have hFc:=hF.cls
     have q:=fun d=>HQ.out (F d) (by
      cases b'
      ·exact below_grown _ (hFc d)
      ·exact hFc d)
     have q1:=fun d=>(q d).1
     have q2:=fun d=>(q d).2.1
     have q3:=fun d=>(q d).2.2.1
     have q4:=fun d=>(q d).2.2.2.1
     have q5:=fun d=>(q d).2.2.2.2
     clear hFc q
     go_big_quiet_op
     first|exact hK|(apply Exists.intro;refine ⟨fun _=>?_,?_⟩;(· fail);exact hK)
    (try simp only [Act.put,List.setIfInBounds_toArray,List.set_cons_zero,List.set_cons_succ])
    refine segQuiet rfl rfl ?_
    apply Exists.intro
    refine ⟨fun b' F hF hf K hK=>?_,?_⟩
    ·have hFc:=hF.cls
     have q:=fun d=>HQ.out (F d) (by
      cases b'
      ·exact below_grown _ (hFc d)
      ·exact hFc d)
     have q1:=fun d=>(q d).1
     have q2:=fun d=>(q d).2.1
     have q3:=fun d=>(q d).2.2.1
     have q4:=fun d=>(q d).2.2.2.1
     have q5:=fun d=>(q d).2.2.2.2
     clear hFc q
     go_big_quiet_op
     first|exact hK|(apply Exists.intro;refine ⟨fun _=>?_,?_⟩;(· fail);exact hK)
    (try simp only [Act.put,List.setIfInBounds_toArray,List.set_cons_zero,List.set_cons_succ])
    refine segQuiet rfl rfl ?_
    apply Exists.intro
    refine ⟨fun b' F hF hf K hK=>?_,?_⟩
    ·have hFc:=hF.cls
     have q:=fun d=>HQ.out (F d) (by
      cases b'
      ·exact below_grown _ (hFc d)
      ·exact hFc d)
     have q1:=fun d=>(q d).1
     have q2:=fun d=>(q d).2.1
     have q3:=fun d=>(q d).2.2.1
     have q4:=fun d=>(q d).2.2.2.1
     have q5:=fun d=>(q d).2.2.2.2
     clear hFc q
     go_big_quiet_op
     first|exact hK|(apply Exists.intro;refine ⟨fun _=>?_,?_⟩;(· fail);exact hK)
    (try simp only [Act.put,List.setIfInBounds_toArray,List.set_cons_zero,List.set_cons_succ])
    refine segQuiet rfl rfl ?_
    apply Exists.intro
    refine ⟨fun b' F hF hf K hK=>?_,?_⟩
    ·have hFc:=hF.cls
     have q:=fun d=>HQ.out (F d) (by
      cases b'
      ·exact below_grown _ (hFc d)
      ·exact hFc d)
     have q1:=fun d=>(q d).1
     have q2:=fun d=>(q d).2.1
     have q3:=fun d=>(q d).2.2.1
     have q4:=fun d=>(q d).2.2.2.1
     have q5:=fun d=>(q d).2.2.2.2
     clear hFc q
     go_big_quiet_op
     first|exact hK|(apply Exists.intro;refine ⟨fun _=>?_,?_⟩;(· fail);exact hK)
    (try simp only [Act.put,List.setIfInBounds_toArray,List.set_cons_zero,List.set_cons_succ])
    refine segQuiet rfl rfl ?_
    apply Exists.intro
    refine ⟨fun b' F hF hf K hK=>?_,?_⟩
    ·have hFc:=hF.cls
     have q:=fun d=>HQ.out (F d) (by
      cases b'
      ·exact below_grown _ (hFc d)
      ·exact hFc d)
     have q1:=fun d=>(q d).1
     have q2:=fun d=>(q d).2.1
     have q3:=fun d=>(q d).2.2.1
     have q4:=fun d=>(q d).2.2.2.1
     have q5:=fun d=>(q d).2.2.2.2
     clear hFc q
     go_big_quiet_op
     first|exact hK|(apply Exists.intro;refine ⟨fun _=>?_,?_⟩;(· fail);exact hK)
    (try simp only [Act.put,List.setIfInBounds_toArray,List.set_cons_zero,List.set_cons_succ])
    refine segQuiet rfl rfl ?_
    apply Exists.intro
    refine ⟨fun b' F hF hf K hK=>?_,?_⟩
    ·have hFc:=hF.cls
     have q:=fun d=>HQ.out (F d) (by
      cases b'
      ·exact below_grown _ (hFc d)
      ·exact hFc d)
     have q1:=fun d=>(q d).1
     have q2:=fun d=>(q d).2.1
     have q3:=fun d=>(q d).2.2.1
     have q4:=fun d=>(q d).2.2.2.1
     have q5:=fun d=>(q d).2.2.2.2
     clear hFc q
     go_big_quiet_op
     first|exact hK|(apply Exists.intro;refine ⟨fun _=>?_,?_⟩;(· fail);exact hK)
    (try simp only [Act.put,List.setIfInBounds_toArray,List.set_cons_zero,List.set_cons_succ])
    refine segQuiet rfl rfl ?_
    apply Exists.intro
    refine ⟨fun b' F hF hf K hK=>?_,?_⟩
    ·have hFc:=hF.cls
     have q:=fun d=>HQ.out (F d) (by
      cases b'
      ·exact below_grown _ (hFc d)
      ·exact hFc d)
     have q1:=fun d=>(q d).1
     have q2:=fun d=>(q d).2.1
     have q3:=fun d=>(q d).2.2.1
     have q4:=fun d=>(q d).2.2.2.1
     have q5:=fun d=>(q d).2.2.2.2
     clear hFc q
     go_big_quiet_op
     first|exact hK|(apply Exists.intro;refine ⟨fun _=>?_,?_⟩;(· fail);exact hK)
    (try simp only [Act.put,List.setIfInBounds_toArray,List.set_cons_zero,List.set_cons_succ])
    refine segQuiet rfl rfl ?_
    apply Exists.intro
    refine ⟨fun b' F hF hf K hK=>?_,?_⟩
    ·have hFc:=hF.cls
     have q:=fun d=>HQ.out (F d) (by
      cases b'
      ·exact below_grown _ (hFc d)
      ·exact hFc d)
     have q1:=fun d=>(q d).1
     have q2:=fun d=>(q d).2.1
     have q3:=fun d=>(q d).2.2.1
     have q4:=fun d=>(q d).2.2.2.1
     have q5:=fun d=>(q d).2.2.2.2
     clear hFc q
     go_big_quiet_op
     first|exact hK|(apply Exists.intro;refine ⟨fun _=>?_,?_⟩;(· fail);exact hK)
    (try simp only [Act.put,List.setIfInBounds_toArray,List.set_cons_zero,List.set_cons_succ])
    refine segQuiet rfl rfl ?_
    apply Exists.intro
    refine ⟨fun b' F hF hf K hK=>?_,?_⟩
    ·have hFc:=hF.cls
     have q:=fun d=>HQ.out (F d) (by
      cases b'
      ·exact below_grown _ (hFc d)
      ·exact hFc d)
     have q1:=fun d=>(q d).1
     have q2:=fun d=>(q d).2.1
     have q3:=fun d=>(q d).2.2.1
     have q4:=fun d=>(q d).2.2.2.1
     have q5:=fun d=>(q d).2.2.2.2
     clear hFc q
     go_big_quiet_op
     first|exact hK|(apply Exists.intro;refine ⟨fun _=>?_,?_⟩;(· fail);exact hK)
    (try simp only [Act.put,List.setIfInBounds_toArray,List.set_cons_zero,List.set_cons_succ])
    refine segQuiet rfl rfl ?_
    apply Exists.intro
    refine ⟨fun b' F hF hf K hK=>?_,?_⟩
    ·have hFc:=hF.cls
     have q:=fun d=>HQ.out (F d) (by
      cases b'
      ·exact below_grown _ (hFc d)
      ·exact hFc d)
     have q1:=fun d=>(q d).1
     have q2:=fun d=>(q d).2.1
     have q3:=fun d=>(q d).2.2.1
     have q4:=fun d=>(q d).2.2.2.1
     have q5:=fun d=>(q d).2.2.2.2
     clear hFc q
     go_big_quiet_op
     first|exact hK|(apply Exists.intro;refine ⟨fun _=>?_,?_⟩;(· fail);exact hK)
    (try simp only [Act.put,List.setIfInBounds_toArray,List.set_cons_zero,List.set_cons_succ])
    refine segQuiet rfl rfl ?_
    apply Exists.intro
    refine ⟨fun b' F hF hf K hK=>?_,?_⟩
    ·have hFc:=hF.cls
     have q:=fun d=>HQ.out (F d) (by
      cases b'
      ·exact below_grown _ (hFc d)
      ·exact hFc d)
     have q1:=fun d=>(q d).1
     have q2:=fun d=>(q d).2.1
     have q3:=fun d=>(q d).2.2.1
     have q4:=fun d=>(q d).2.2.2.1
     have q5:=fun d=>(q d).2.2.2.2
     clear hFc q
     go_big_quiet_op
     first|exact hK|(apply Exists.intro;refine ⟨fun _=>?_,?_⟩;(· fail);exact hK)
    (try simp only [Act.put,List.setIfInBounds_toArray,List.set_cons_zero,List.set_cons_succ])
    refine segQuiet rfl rfl ?_
    apply Exists.intro
    refine ⟨fun b' F hF hf K hK=>?_,?_⟩
    ·have hFc:=hF.cls
     have q:=fun d=>HQ.out (F d) (by
      cases b'
      ·exact below_grown _ (hFc d)
      ·exact hFc d)
     have q1:=fun d=>(q d).1
     have q2:=fun d=>(q d).2.1
     have q3:=fun d=>(q d).2.2.1
     have q4:=fun d=>(q d).2.2.2.1
     have q5:=fun d=>(q d).2.2.2.2
     clear hFc q
     go_big_quiet_op
     first|exact hK|(apply Exists.intro;refine ⟨fun _=>?_,?_⟩;(· fail);exact hK)
    (try simp only [Act.put,List.setIfInBounds_toArray,List.set_cons_zero,List.set_cons_succ])
    refine segQuiet rfl rfl ?_
    apply Exists.intro
    refine ⟨fun b' F hF hf K hK=>?_,?_⟩
    ·have hFc:=hF.cls
     have q:=fun d=>HQ.out (F d) (by
      cases b'
      ·exact below_grown _ (hFc d)
      ·exact hFc d)
     have q1:=fun d=>(q d).1
     have q2:=fun d=>(q d).2.1
     have q3:=fun d=>(q d).2.2.1
     have q4:=fun d=>(q d).2.2.2.1
     have q5:=fun d=>(q d).2.2.2.2
     clear hFc q
     go_big_quiet_op
     first|exact hK|(apply Exists.intro;refine ⟨fun _=>?_,?_⟩;(· fail);exact hK)
    (try simp only [Act.put,List.setIfInBounds_toArray,List.set_cons_zero,List.set_cons_succ])
    refine segTold rfl (by decide) rfl ?_ ?_
    ·intro b' F hF hf d
     have hFc:=hF.cls
     have hcls:wr.heap.size≤(F d).heap.size:=by
      cases b'
      ·exact (hFc d).size
      ·exact (hFc d).size
     simp [yieldsR,yieldsUpon,go_sem]
     exact ⟨⟨(F d).heap.size,rfl,heap_alloc_new (F d) _,hcls⟩,up_alloc _ _⟩
    (try simp only [Act.put,List.setIfInBounds_toArray,List.set_cons_zero,List.set_cons_succ])
    refine segBusy rfl rfl rfl ?_ ?_
    ·intro W hW hf
     have h7:=hf _ List.mem_cons_self (by rfl) W
     obtain ⟨g7,e7,hg7,_⟩:=h7
     simp only [] at e7
     obtain ⟨g8,c8,w8,hr8,ho8,hgr8⟩:=appGr layT2 (by decide) (by decide) 37 W w.heap.size (.slice pL k cL) k ((ls.take k).flatMap lyC) (owns_only (S:=[]) HL9.out (Only.of hW) (by simp)) g7 [.string s,.int .i64 a,.int .i64 b] hg7 rfl (fun x hx=>by simp at hx;rcases hx with rfl|rfl|rfl <;> rfl) (by omega) (Nat.le_trans HZ9.out (Below.size hW))
     simp [leavesR,leavesUpon,execOp,resolve,invoke,builtin,Act.eval,e7,hr8,Result.andThen]
     exact ⟨⟨g8,c8,rfl,ho8⟩,grown_trans (below_grown _ hW) hgr8,hgr8⟩
    (try simp only [Act.put,List.setIfInBounds_toArray,List.set_cons_zero,List.set_cons_succ])
    refine segQuiet rfl rfl ?_
    apply Exists.intro
    refine ⟨fun b' F hF hf K hK=>?_,?_⟩
    ·have hFc:=hF.cls
     have q:=fun d=>HQ.out (F d) (by
      cases b'
      ·exact below_grown _ (hFc d)
      ·exact hFc d)
     have q1:=fun d=>(q d).1
     have q2:=fun d=>(q d).2.1
     have q3:=fun d=>(q d).2.2.1
     have q4:=fun d=>(q d).2.2.2.1
     have q5:=fun d=>(q d).2.2.2.2
     clear hFc q
     go_big_quiet_op
     first|exact hK|(apply Exists.intro;refine ⟨fun _=>?_,?_⟩;(· fail);exact hK)
    (try simp only [Act.put,List.setIfInBounds_toArray,List.set_cons_zero,List.set_cons_succ])
    refine segEnd ?_
    exact rfl
   ·exact fun x=>rfl
   ·intro w8 xs8 hC8 hf8
    refine from_list 24 (by kernel_rfl) ?_
    simp only [List.drop_succ_cons,List.drop_zero]
    have h8:=hf8 _ (List.mem_cons_of_mem _ List.mem_cons_self)
    obtain ⟨x5,e5⟩:∃ z,xs8 21=z:=⟨_,rfl⟩
    obtain ⟨x6,e6⟩:∃ z,xs8 22=z:=⟨_,rfl⟩
    simp only [e6] at h8
    simp only [e5,e6]
    obtain ⟨g8,c8,rfl,h8⟩:=h8
    have hO8:=HG.out w8 hC8
    have hv8:=hO8.1.keep HI.out.2.2.1 (by decide)
    obtain ⟨_,⟨r0,r1⟩⟩:=box_2 hv8
    have HF:Hid ((w8.setCell ⟨w.heap.size+2,1,none⟩ (.slice (some ⟨g8,0,none⟩) (k+1) c8)).heap[w.heap.size]?=some (.cells #[.slice p n c,.slice (some ⟨q,o,none⟩) n2 c2] 26 (0,0))∧(w8.setCell ⟨w.heap.size+2,1,none⟩ (.slice (some ⟨g8,0,none⟩) (k+1) c8)).heap[w.heap.size+1]?=some (.cells #[.slice none 0 0,.slice none 0 0] 39 (0,0))∧(w8.setCell ⟨w.heap.size+2,1,none⟩ (.slice (some ⟨g8,0,none⟩) (k+1) c8)).heap[w.heap.size+2]?=some (.cells #[.slice p n c,.slice (some ⟨g8,0,none⟩) (k+1) c8] 39 (0,0))∧Below w.heap.size w (w8.setCell ⟨w.heap.size+2,1,none⟩ (.slice (some ⟨g8,0,none⟩) (k+1) c8))):=by
     refine ⟨?_,?_,?_,hO8.2.setCell (p:=⟨w.heap.size+2,1,none⟩) (Nat.le_add_right _ _) _⟩
     ·rw [heap_set _ _ _ _ _ (by omega)]
      exact hO8.1.keep HI.out.1 (by decide)
     ·rw [heap_set _ _ _ _ _ (by omega)]
      exact hO8.1.keep HI.out.2.1 (by decide)
     ·rw [heap_setat hv8]
      rfl
    have HF2:Hid ((w8.setCell ⟨w.heap.size+2,1,none⟩ (.slice (some ⟨g8,0,none⟩) (k+1) c8)).ownsRow w.heap.size 90 3 (.slice (some ⟨g8,0,none⟩) (k+1) c8) (k+1) ((ls.take (k+1)).flatMap lyC)):=by
     show World.ownsRow _ _ _ _ _ _ _
     rw [HT.out]
     exact owns_only (S:=[39]) h8 (Only.set hv8 (by simp)) (by decide)
    clear hO8 hv8 h8 hf8 hC8 e5 e6
    go_wp2
    go_roundg (n2 - (k+1))
    case measure=>omega
    case rel=>exact ⟨k+1,_,by omega,rfl,by first|rfl|simp,HF,HF2⟩
  ·obtain rfl:k=n2:=by omega
   obtain ⟨⟨d0,d0'⟩,⟨d1,d1'⟩⟩:=box_2 HI.out.2.1
   obtain ⟨⟨f0,_⟩,⟨f1,_⟩⟩:=box_2 HI.out.2.2.1
   have kd:=cell_size d0
   have kf:=cell_size f0
   go_wp2
   generalize hU:World.setCell _ _ _=U
   obtain ⟨u0,u1,hBU,hOU⟩:=two_set HI.out.2.1 hU
   have HLF:LyE 90 U w.heap.size (.slice pL k cL) ls:=by
    have:=owns_only HL9.out hOU (by decide)
    rw [List.take_of_length_le (by rw [HL.out.1];exact Nat.le_refl _)] at this
    unfold LyE
    rw [HL.out.1]
    exact this
   exact bodyPost_ret (v:=.agg #[.slice p n c,.slice pL k cL]) (by simp [results,Tryz.results17,go_sem,u0,u1]) rfl ⟨_,_,rfl,HLF,hBU w _ (by omega) HI.out.2.2.2⟩
theorem lay_eq (s t:ByteArray) (a b c d:Int) (W:World):Sem.run Tryz.prog (Op.equalIn 10000 90 (.agg #[.string s,.int .i64 a,.int .i64 b]) (.agg #[.string t,.int .i64 c,.int .i64 d])) W = .ok (decide ((s,a,b)=(t,c,d))) W:=by
 have u1:=Tryz.underlying3
 have u2:=Tryz.underlying9
 have a1:=Tryz.isAgg3
 have a2:=Tryz.isAgg9
 rw [show (10000:Nat)=9999+1 from rfl,run_equalIn_struct _ _ _ _ _ (by kernel_rfl) (by kernel_rfl)]
 have hs:(s.toList==t.toList)=decide (s=t):=by
  by_cases h:s=t
  ·subst h;simp
  ·rw [str_ne h,decide_eq_false h]
 go_simp
 by_cases h1:s=t <;> by_cases h2:a=c <;> by_cases h3:b=d <;> simp [h1,h2,h3]
theorem ly_ext {l1 l2:List Ly} (h:l1.length=l2.length) (h2:∀ i,i < l1.length→lyA l1 i=lyA l2 i):l1=l2:=by
 refine List.ext_getElem h fun i hi hj=>?_
 have:=h2 i hi
 unfold lyA at this
 rw [List.getD_eq_getElem?_getD,List.getElem?_eq_getElem hi,List.getD_eq_getElem?_getD,List.getElem?_eq_getElem hj] at this
 exact this
theorem alike_any (p1 p2 q1 q2:Option Addr) (n1 c1 n2 c2 m1 e1 m2 e2:Nat) (d1 d2:List Int) (l1 l2:List Ly) (hd:d1.length≤9223372036854775807) (hm:m1≤1073741824) (w:World) (h1:Nums .i64 w (.slice p1 n1 c1) d1) (h2:Nums .i64 w (.slice p2 n2 c2) d2) (k1:LyR 0 w q1 m1 l1) (k2:LyR 0 w q2 m2 l2):
  Calls Tryz.prog 16 #[.agg #[.slice p1 n1 c1,.slice q1 m1 e1],.agg #[.slice p2 n2 c2,.slice q2 m2 e2]] w fun e w'=>e = .returned (.bool (decide (d1=d2∧l1=l2)))∧Below w.heap.size w w':=by
 haveI:Nonempty World:=⟨w⟩
 have HK:Hid (LyR 0 w q1 m1 l1∧LyR 0 w q2 m2 l2):=⟨k1,k2⟩
 obtain ⟨r,er⟩:∃ r:Bool,decide (d1=d2∧l1=l2)=r:=⟨_,rfl⟩
 have HR:Hid (decide (d1=d2∧l1=l2)=r):=er
 rw [er]
 have HD:Hid (d1.length≤9223372036854775807∧Nums .i64 w (.slice p1 n1 c1) d1∧Nums .i64 w (.slice p2 n2 c2) d2):=⟨hd,h1,h2⟩
 clear er k1 k2 h1 h2 hd
 go_enter Tryz.func16,Tryz.ntmps16
 go_wp2_with fail
 generalize hW0:World.alloc _ _=W0
 have HB0:Hid (Below w.heap.size w W0):=by rw [← hW0];exact blit (up_alloc w _) _
 obtain ⟨x0,x1,y0,y1⟩:W0.cell? ⟨w.heap.size,0,none⟩=some (.slice p1 n1 c1)∧W0.cell? ⟨w.heap.size,1,none⟩=some (.slice q1 m1 e1)∧W0.cell? ⟨w.heap.size+1,0,none⟩=some (.slice p2 n2 c2)∧W0.cell? ⟨w.heap.size+1,1,none⟩=some (.slice q2 m2 e2):=by rw [← hW0];simp [go_sem]
 clear hW0
 have kx:=cell_size x0
 have ky:=cell_size y0
 have cS:=rsame_any (.slice p1 n1 c1) (.slice p2 n2 c2) d1 d2 HD.out.1 W0 (HD.out.2.1.up HB0.out) (HD.out.2.2.up HB0.out)
 obtain ⟨qs,eqs⟩:∃ q:Bool,decide (d1=d2)=q:=⟨_,rfl⟩
 rw [eqs] at cS
 have HQ:Hid (decide (d1=d2)=qs):=eqs
 clear eqs
 refine cS.mono ?_
 rintro e w1 ⟨rfl,dr,e1'⟩
 have hB1:Below W0.heap.size W0 w1:=by rw [e1'];exact below_drew (Below.refl _ _) dr
 have HB1:Hid (Below w.heap.size w w1):=bstep HB0.out hB1
 replace x0:=still_cell hB1 x0
 replace x1:=still_cell hB1 x1
 replace y0:=still_cell hB1 y0
 replace y1:=still_cell hB1 y1
 replace kx:=cell_size x0
 replace ky:=cell_size y0
 clear e1' hB1 cS
 cases qs with
 | false=>
  have er:r=false:=by rw [← HR.out,decide_eq_false fun h=>of_decide_eq_false HQ.out h.1]
  subst er
  go_wp2
  go_ret
  exact ⟨rfl,HB1.out⟩
 | true=>
  by_cases hmm:m1=m2
  case neg=>
   have er:r=false:=by rw [← HR.out,decide_eq_false fun h=>hmm (by rw [← HK.out.1.1,← HK.out.2.1,h.2])]
   subst er
   have hm':((m1:Int) != (m2:Int))=true:=by simpa using (show (m1:Int)≠(m2:Int) by omega)
   have hm2:¬ ((m1:Int)=(m2:Int)):=by omega
   go_wp2
   go_ret
   exact ⟨rfl,HB1.out⟩
  subst hmm
  go_wp2_with fail
  have HX:Hid (w1.cell? ⟨w.heap.size,1,none⟩=some (.slice q1 m1 e1)∧w1.cell? ⟨w.heap.size+1,1,none⟩=some (.slice q2 m1 e2)):=⟨x1,y1⟩
  clear x0 x1 y0 y1 kx ky
  go_loopg [5] m1 (fun gg v wr=>∃ (k:Nat),k≤m1∧gg=m1 - k∧v = .int .i64 (k:Int)∧Hid (∀ i,i < k→lyA l1 i=lyA l2 i)∧Hid (Below w1.heap.size w1 wr))
  case atStart=>exact ⟨0,by omega,by omega,rfl,fun i hi=>by omega,Below.refl _ _⟩
  case round=>
   obtain ⟨k,hk,hg,rfl,Hx,HB⟩:=hrel
   have x1:=still_cell HB.out HX.out.1
   have y1:=still_cell HB.out HX.out.2
   have kx:=cell_size x1
   have ky:=cell_size y1
   by_cases hkn:k < m1
   ·have hk':(k:Int) < (m1:Int):=by omega
    obtain ⟨qa,oa,rfl,a0,a1,a2⟩:=(HK.out.1.up (bstep HB1.out HB.out)).2 k hkn
    obtain ⟨qb,ob,rfl,b0,b1,b2⟩:=(HK.out.2.up (bstep HB1.out HB.out)).2 k hkn
    obtain ⟨u,eu⟩:∃ l,lyA l1 k=l:=⟨_,rfl⟩
    obtain ⟨v,ev⟩:∃ l,lyA l2 k=l:=⟨_,rfl⟩
    obtain ⟨s1,a,b⟩:=u
    obtain ⟨s2,c,d⟩:=v
    rw [eu] at a0 a1 a2
    rw [ev] at b0 b1 b2
    have ka:=cell_size a0
    have kb:=cell_size b0
    have hq:=fun W=>lay_eq s1 s2 a b c d W
    by_cases he:(s1,a,b)=(s2,c,d)
    ·simp only [decide_eq_true he] at hq
     have HN:Hid (∀ i,i < k+1→lyA l1 i=lyA l2 i):=fun i hi=>by
      rcases Nat.lt_succ_iff_lt_or_eq.1 hi with h2|rfl
      ·exact Hx.out i h2
      ·rw [eu,ev];exact he
     clear he eu ev
     go_wp2
     go_region
     go_wp2
     go_roundg (m1 - (k+1))
     case measure=>omega
     case rel=>exact ⟨k+1,by omega,rfl,by first|rfl|simp,HN,HB.out.trans ⟨rfl,rfl,rfl,Nat.le_refl _,fun _ _=>rfl⟩⟩
    ·simp only [decide_eq_false he] at hq
     have er:r=false:=by rw [← HR.out,decide_eq_false fun h=>he (by rw [← eu,← ev,h.2])]
     subst er
     clear he eu ev
     go_wp2
     go_region
     go_wp2
     go_ret
     exact ⟨rfl,bstep HB1.out (HB.out.trans ⟨rfl,rfl,rfl,Nat.le_refl _,fun _ _=>rfl⟩)⟩
   ·obtain rfl:k=m1:=by omega
    have er:r=true:=by
     rw [← HR.out,decide_eq_true ⟨of_decide_eq_true HQ.out,ly_ext (by rw [HK.out.1.1,HK.out.2.1]) fun i hi=>Hx.out i (by rw [← HK.out.1.1];exact hi)⟩]
    subst er
    go_wp2
    go_ret
    exact ⟨rfl,bstep HB1.out HB.out⟩
end Go.Proofs.YtiampagapgjedaaGreatDoor.Wd
namespace Go.Proofs.YtiampagapgjedaaGreatDoor.Wd
/-- Words, byte by byte: cur is the one under way. -/
def fieldsL:List UInt8→List UInt8→List (List UInt8)
 | [],cur=>if cur = [] then [] else [cur]
 | b :: r,cur=>if blankB b then (if cur = [] then fieldsL r [] else cur :: fieldsL r []) else fieldsL r (cur++[b])
def pieceB (l:List UInt8) (a b:Nat):List UInt8:=(l.drop a).take (b - a)
def curB (l:List UInt8) (st:Option Nat) (n:Nat):List UInt8:=match st with|none=>[]|some a=>pieceB l a n
theorem get_list (s:ByteArray) (n:Nat) (h:n < s.data.toList.length):s.get! n=s.data.toList[n]:=by
 have h':n < s.data.size:=by simpa using h
 show (s.data[n]!)=_
 rw [getElem!_pos s.data n h']
 simp
theorem spans_lt (s:ByteArray):∀ n a,(spansN s n).2=some a→a < n
 | 0,a,h=>by cases h
 | n+1,a,h=>by
  have ih:=spans_lt s n
  have e:spansN s (n+1)=spanStep s n (spansN s n):=rfl
  rw [e] at h
  unfold spanStep at h
  cases hs:(spansN s n).2 with
  | none=>rw [hs] at h;split at h <;> simp at h;omega
  | some c=>
   rw [hs] at h
   have:=ih c hs
   split at h <;> simp at h
   omega
theorem piece_grow (l:List UInt8) (a n:Nat) (h:a≤n) (hn:n < l.length):pieceB l a n++[l[n]]=pieceB l a (n+1):=by
 unfold pieceB
 rw [show n+1 - a=n - a+1 by omega,List.take_add_one]
 congr 1
 rw [List.getElem?_drop,show a+(n - a)=n by omega,List.getElem?_eq_getElem hn]
 rfl
theorem piece_ne (l:List UInt8) (a n:Nat) (h:a < n) (hn:n≤l.length):pieceB l a n≠[]:=by
 intro e
 have:=congrArg List.length e
 simp [pieceB] at this
 omega
theorem fields_at (s:ByteArray):∀ n,n≤s.data.toList.length→fieldsL s.data.toList []=(spansN s n).1.map (fun x=>pieceB s.data.toList x.1 x.2)++fieldsL (s.data.toList.drop n) (curB s.data.toList (spansN s n).2 n)
 | 0,_=>by simp [spansN,curB]
 | n+1,h=>by
  have hn:n < s.data.toList.length:=by omega
  rw [fields_at s n (by omega),List.drop_eq_getElem_cons hn]
  have e:spansN s (n+1)=spanStep s n (spansN s n):=rfl
  have hlt:=spans_lt s n
  rw [e]
  unfold spanStep
  rw [get_list s n hn,fieldsL]
  cases hs:(spansN s n).2 with
  | none=>
   cases hb:blankB s.data.toList[n] with
   | true=>simp [curB]
   | false=>
    have e1:pieceB s.data.toList n (n+1) = [s.data.toList[n]]:=by
     unfold pieceB
     rw [List.drop_eq_getElem_cons hn,show n+1 - n=1 by omega]
     rfl
    simp only [curB,Bool.false_eq_true,if_false,List.nil_append]
    rw [e1]
  | some a=>
   have ha:=hlt a hs
   have hne:=piece_ne s.data.toList a n ha (by omega)
   cases hb:blankB s.data.toList[n] with
   | true=>simp [curB,hne]
   | false=>
    have:=piece_grow s.data.toList a n (by omega) hn
    simp only [curB,Bool.false_eq_true,if_false]
    rw [this]
theorem words_fields (s:ByteArray):(wordsB s).map (·.data.toList)=fieldsL s.data.toList []:=by
 have hz:s.data.toList.length=s.size:=by show s.data.toList.length=s.data.size;rw [Array.length_toList]
 rw [fields_at s s.size (by omega),List.drop_eq_nil_of_le (by omega)]
 unfold wordsB Lib.closeSpans
 have hx:∀ a b,(s.extract a b).data.toList=pieceB s.data.toList a b:=fun a b=>Lib.extract_data s a b
 cases hs:(spansN s s.size).2 with
 | none=>
  simp [fieldsL,curB,hx]
  exact fun _ _ _=>rfl
 | some a=>
  have hne:=piece_ne s.data.toList a s.size (spans_lt s _ a hs) (by omega)
  simp [fieldsL,curB,hx,hne]
  exact ⟨fun _ _ _=>rfl,rfl⟩
theorem fields_word:∀ (u:List UInt8) (cur r:List UInt8),(∀ b∈u,blankB b=false)→fieldsL (u++r) cur=fieldsL r (cur++u)
 | [],cur,r,_=>by simp
 | b :: u,cur,r,h=>by
  have hb:=h b (by simp)
  rw [List.cons_append,fieldsL,hb]
  simp only [Bool.false_eq_true,if_false]
  rw [fields_word u _ r fun x hx=>h x (by simp [hx])]
  simp
theorem fields_join:∀ (ws:List (List UInt8)),(∀ u∈ws,u≠[]∧∀ b∈u,blankB b=false)→fieldsL (Lib.join ws [32]) []=ws
 | [],_=>by simp [Lib.join,fieldsL]
 | [u],h=>by
  have hu:=h u (by simp)
  have e:Lib.join [u] [32]=u++[]:=by simp [Lib.join]
  rw [e,fields_word u [] [] hu.2]
  simp [fieldsL,hu.1]
 | u :: v :: r,h=>by
  have hu:=h u (by simp)
  have e:Lib.join (u :: v :: r) [32]=u++32 :: Lib.join (v :: r) [32]:=by simp [Lib.join,List.intercalate]
  rw [e,fields_word u [] _ hu.2,fieldsL]
  have hb:blankB 32=true:=by decide
  rw [hb]
  simp only [if_true,List.nil_append,hu.1,if_false]
  rw [fields_join (v :: r) fun x hx=>h x (by simp at hx ⊢;right;exact hx)]
def okW (w:ByteArray):Prop:=w.data.toList≠[]∧∀ b∈w.data.toList,blankB b=false
theorem words_join (ws:List ByteArray) (h:∀ w∈ws,okW w):wordsB (joinW ws)=ws:=by
 have e:=words_fields (joinW ws)
 rw [show (joinW ws).data.toList=Lib.join (ws.map (·.data.toList)) [32] by simp [joinW],fields_join _ (fun u hu=>by
  obtain ⟨w,hw,rfl⟩:=List.mem_map.1 hu
  exact h w hw)] at e
 have inj:∀ (x y:List ByteArray),x.map (·.data.toList)=y.map (·.data.toList)→x=y:=by
  intro x
  induction x with
  | nil=>intro y hy;cases y with|nil=>rfl|cons=>simp at hy
  | cons a x ih=>
   intro y hy
   cases y with
   | nil=>simp at hy
   | cons b y=>
    simp only [List.map_cons,List.cons.injEq] at hy
    rw [ih y hy.2]
    congr 1
    obtain ⟨⟨p⟩⟩:=a
    obtain ⟨⟨q⟩⟩:=b
    have:=hy.1
    simp at this
    rw [this]
 exact inj _ _ e
def dgOk (n:Nat):Bool:=decide (numB (dgB (n:Int))=some (n:Int)) && (!(dgB (n:Int)).data.toList.isEmpty && (dgB (n:Int)).data.toList.all fun b=>!blankB b) && decide ((dgB (n:Int)).data.toList.length≤5)
theorem dg_all:(List.range 1025).all dgOk=true:=by decide +kernel
theorem dg_ok {x:Int} (h:0≤x∧x≤1024):numB (dgB x)=some x∧okW (dgB x)∧(dgB x).data.toList.length≤5:=by
 have:=List.all_eq_true.1 dg_all x.toNat (List.mem_range.2 (by omega))
 unfold dgOk at this
 rw [Int.toNat_of_nonneg h.1] at this
 simp only [Bool.and_eq_true,decide_eq_true_eq,Bool.not_eq_true',List.isEmpty_eq_false_iff,List.all_eq_true] at this
 exact ⟨this.1.1,⟨this.1.2.1,fun b hb=>this.1.2.2 b hb⟩,this.2⟩
theorem kind_w (s:ByteArray) (h:kindI s < 5):okW s∧numB s=none∧s.data.toList.length≤5:=by
 have key:∀ u:ByteArray,(!u.data.toList.isEmpty && u.data.toList.all fun b=>!blankB b)=true→okW u:=fun u hu=>by
  simp only [Bool.and_eq_true,Bool.not_eq_true',List.isEmpty_eq_false_iff,List.all_eq_true] at hu
  exact ⟨hu.1,fun b hb=>hu.2 b hb⟩
 rcases kind_cases s with ⟨rfl,e⟩|⟨rfl,e⟩|⟨rfl,e⟩|⟨rfl,e⟩|⟨rfl,e⟩|⟨_,e⟩
 ·exact ⟨key _ (by decide +kernel),by decide +kernel,by decide +kernel⟩
 ·exact ⟨key _ (by decide +kernel),by decide +kernel,by decide +kernel⟩
 ·exact ⟨key _ (by decide +kernel),by decide +kernel,by decide +kernel⟩
 ·exact ⟨key _ (by decide +kernel),by decide +kernel,by decide +kernel⟩
 ·exact ⟨key _ (by decide +kernel),by decide +kernel,by decide +kernel⟩
 ·omega
theorem numsA_dg:∀ (xs:List Int) (m:Nat) (r:List ByteArray),(∀ x∈xs,0≤x∧x≤1024)→xs.length≤m→(xs.length=m∨r = []∨∃ u us,r=u :: us∧numB u=none)→numsA (xs.map dgB++r) m=(xs,r)
 | [],m,r,_,_,h=>by
  rw [List.map_nil,List.nil_append]
  rcases h with rfl|rfl|⟨u,us,rfl,h⟩
  ·exact numsA_zero r
  ·rfl
  ·cases m with
   | zero=>rfl
   | succ m=>exact numsA_none h
 | x :: xs,0,r,_,h,_=>by simp at h
 | x :: xs,m+1,r,hx,hm,h=>by
  rw [List.map_cons,List.cons_append,numsA_some (dg_ok (hx x (by simp))).1,numsA_dg xs m r (fun y hy=>hx y (by simp [hy])) (by simpa using hm) (by
   rcases h with h|h
   ·exact .inl (by simpa using h)
   ·exact .inr h)]
theorem flat_head (ls:List Ly) (h:∀ l∈ls,LayOk l):ls.flatMap lyW = []∨∃ u us,ls.flatMap lyW=u :: us∧numB u=none:=by
 cases ls with
 | nil=>exact .inl rfl
 | cons l ls=>exact .inr ⟨l.1,_,by rw [List.flatMap_cons];rfl,(kind_w l.1 (h l (by simp)).1).2.1⟩
theorem parL_text:∀ (ls:List Ly) (f:Nat),(∀ l∈ls,LayOk l)→(ls.flatMap lyW).length≤f→parL f (ls.flatMap lyW)=some ls
 | [],0,_,_=>rfl
 | [],f+1,_,_=>rfl
 | l :: ls,0,_,h=>by rw [List.flatMap_cons] at h;simp [lyW] at h
 | l :: ls,f+1,hl,h=>by
  have ih:∀ g,(ls.flatMap lyW).length≤g→parL g (ls.flatMap lyW)=some ls:=fun g=>parL_text ls g fun x hx=>hl x (by simp [hx])
  have hh:=flat_head ls fun x hx=>hl x (by simp [hx])
  have h0:=hl l (by simp)
  have key:∀ (xs:List Int),(∀ x∈xs,0≤x∧x≤1024)→xs.length=kCnt (kindI l.1)→lyW l=l.1 :: xs.map dgB→l.2.1=xs.getD 0 0→l.2.2=xs.getD 1 0→parL (f+1) ((l :: ls).flatMap lyW)=some (l :: ls):=fun xs hx hc hw ha hb=>by
   have hn:=numsA_dg xs (kCnt (kindI l.1)) (ls.flatMap lyW) hx (by omega) (.inl hc)
   rw [List.flatMap_cons,hw,List.cons_append] at h ⊢
   unfold parL
   rw [hn,if_neg fun e=>e.elim (fun e=>by have:=h0.1;omega) (fun e=>e hc),ih f (by simp only [List.length_cons,List.length_append] at h;omega),← ha,← hb]
   rfl
  unfold lyW at key
  rcases layOk_cases h0 with ⟨_,k,h1,h2⟩|⟨_,k,h1,h2⟩|⟨_,k,h1,h2⟩|⟨_,k,h1,h2⟩|⟨_,k,h1,h2⟩ <;> rw [k] at key
  ·exact key [l.2.1] (by simp;omega) rfl rfl rfl h2
  ·exact key [l.2.1,l.2.2] (by simp;omega) rfl rfl rfl rfl
  ·exact key [l.2.1] (by simp;omega) rfl rfl rfl h2
  ·exact key [l.2.1] (by simp;omega) rfl rfl rfl h2
  ·exact key [] (by simp) rfl rfl h1 h2
theorem lyW_ok {l:Ly} (h:LayOk l):∀ u∈lyW l,okW u∧u.data.toList.length≤5:=by
 intro u hu
 unfold lyW at hu
 rcases layOk_cases h with ⟨_,k,h1,h2⟩|⟨_,k,h1,h2⟩|⟨_,k,h1,h2⟩|⟨_,k,h1,h2⟩|⟨_,k,h1,h2⟩ <;> rw [k] at hu <;> simp at hu
 ·rcases hu with rfl|rfl
  ·exact ⟨(kind_w _ h.1).1,(kind_w _ h.1).2.2⟩
  ·exact (dg_ok (by omega)).2
 ·rcases hu with rfl|rfl|rfl
  ·exact ⟨(kind_w _ h.1).1,(kind_w _ h.1).2.2⟩
  ·exact (dg_ok (by omega)).2
  ·exact (dg_ok (by omega)).2
 ·rcases hu with rfl|rfl
  ·exact ⟨(kind_w _ h.1).1,(kind_w _ h.1).2.2⟩
  ·exact (dg_ok (by omega)).2
 ·rcases hu with rfl|rfl
  ·exact ⟨(kind_w _ h.1).1,(kind_w _ h.1).2.2⟩
  ·exact (dg_ok (by omega)).2
 ·subst hu
  exact ⟨(kind_w _ h.1).1,(kind_w _ h.1).2.2⟩
theorem in_rng {d:List Int} (h:InOk d):d.length≤2∧d≠[]∧∀ x∈d,0≤x∧x≤1024:=by
 rcases h with ⟨x,rfl,h⟩|⟨x,y,rfl,h,h2⟩
 ·simp;omega
 ·simp;omega
theorem netW_ok {d:List Int} {ls:List Ly} (hd:InOk d) (hl:∀ l∈ls,LayOk l):∀ w∈netW d ls,okW w∧w.data.toList.length≤5:=by
 intro w hw
 unfold netW at hw
 simp only [List.mem_cons,List.mem_append,List.mem_map,List.mem_flatMap] at hw
 rcases hw with rfl|⟨x,hx,rfl⟩|⟨l,hm,hx⟩
 ·exact ⟨⟨by simp [kIn],fun b hb=>by
   simp [kIn] at hb
   rcases hb with rfl|rfl <;> decide⟩,by simp [kIn]⟩
 ·exact (dg_ok ((in_rng hd).2.2 x hx)).2
 ·exact lyW_ok (hl l hm) w hx
theorem back_par {d:List Int} {ls:List Ly} (hd:InOk d) (hl:∀ l∈ls,LayOk l):parW (wordsB (joinW (netW d ls)))=some (d,ls):=by
 rw [words_join _ fun w hw=>(netW_ok hd hl w hw).1]
 unfold netW parW
 have hn:=numsA_dg d 2 (ls.flatMap lyW) (in_rng hd).2.2 (in_rng hd).1 (.inr (flat_head ls hl))
 simp only [hn]
 rw [if_pos (by exact ⟨trivial,(in_rng hd).2.1⟩),parL_text ls _ hl (Nat.le_refl _)]
 rfl
/-- Of a good net: its text is no longer than may be where so much is known. -/
theorem back_E {d:List Int} {ls:List Ly} (h:nE d ls=0) (hs:(netT d ls).size≤16384):pE (netT d ls)=0∧pX (netT d ls)=(d,ls):=by
 obtain ⟨S,hf,-,-⟩:=net_good h
 obtain ⟨hd,hl⟩:=(formB_iff d ls).1 hf
 have e:netT d ls=joinW (netW d ls):=if_pos h
 have hp:=back_par hd hl
 rw [← e] at hp
 have h1:pE (netT d ls)=0:=by
  unfold pE
  rw [if_neg (by omega),hp]
  exact h
 refine ⟨h1,?_⟩
 unfold pX
 rw [if_pos h1,hp]
 rfl
theorem back_none {d:List Int} {ls:List Ly} (h:nE d ls≠0):netT d ls=⟨#[]⟩∧pE (netT d ls)=7∧pX (netT d ls)=([],[]):=by
 have e:netT d ls=⟨#[]⟩:=if_neg h
 rw [e]
 exact ⟨rfl,by decide +kernel,by decide +kernel⟩
end Go.Proofs.YtiampagapgjedaaGreatDoor.Wd
namespace Go.Proofs.YtiampagapgjedaaGreatDoor.Wd
open Go.ChangeShapes Go.WideShapes Go.ChangeAt Go.RowKit Go.Joins Go.Deep
def LayN (W:World) (p:Option Addr) (n c:Nat) (ls:List Ly):Prop:=n≤c∧c≤9223372036854775807∧LyR 0 W p n ls
theorem list3 {α:Type} {l:List α} (h:l.length=3):∃ a b c,l = [a,b,c]:=by
 match l,h with
 | [a,b,c],_=>exact ⟨a,b,c,rfl⟩
theorem lyR_of {W:World} {p:Option Addr} {n:Nat} (h:∀ i,i < n→∃ q o s a b,p=some ⟨q,o,none⟩∧W.cell? ⟨q,o+i*3,none⟩=some (.string s)∧W.cell? ⟨q,o+i*3+1,none⟩=some (.int .i64 a)∧W.cell? ⟨q,o+i*3+2,none⟩=some (.int .i64 b)):∃ ls,LyR 0 W p n ls:=by
 have h2:∀ i,∃ l:Ly,i < n→∃ q o,p=some ⟨q,o,none⟩∧W.cell? ⟨q,o+i*3,none⟩=some (.string l.1)∧W.cell? ⟨q,o+i*3+1,none⟩=some (.int .i64 l.2.1)∧W.cell? ⟨q,o+i*3+2,none⟩=some (.int .i64 l.2.2):=fun i=>by
  by_cases hi:i < n
  ·obtain ⟨q,o,s,a,b,h3⟩:=h i hi
   exact ⟨(s,a,b),fun _=>⟨q,o,h3⟩⟩
  ·exact ⟨lyD,fun h4=>absurd h4 hi⟩
 obtain ⟨f,hf⟩:=Classical.axiomOfChoice h2
 refine ⟨(List.range n).map f,by simp,fun i hi=>?_⟩
 have e:lyA ((List.range n).map f) i=f i:=by
  unfold lyA
  rw [List.getD_eq_getElem?_getD,List.getElem?_map,List.getElem?_range hi]
  rfl
 rw [e]
 exact hf i hi
theorem open_lays {H:Type} {enc:TypeId×Value→H} {P:Program} {W:World} {t e:TypeId} {f0 f1 f2:Field} {a:Option Addr} {n c:Nat} {d:DataW H} {ps:List MemPlace}
  (ht:P.underlying t=some (.slice e)) (he:P.underlying e=some (.struct #[f0,f1,f2])) (ce:P.cellsOf e=3)
  (o0:f0.offset=0) (o1:f1.offset=1) (o2:f2.offset=2) (c0:P.cellsOf f0.type=1) (c1:P.cellsOf f1.type=1) (c2:P.cellsOf f2.type=1)
  (u0:P.underlying f0.type=some .string) (u1:P.underlying f1.type=some (.int .i64)) (u2:P.underlying f2.type=some (.int .i64))
  (h:DataW.Trod enc P W 0 (fun _=>true) true t (.slice a n c) d ps):∃ ls,LayN W a n c ls:=by
 obtain ⟨fuel,hf⟩:=h
 rcases open_slice ht hf with ⟨hcs,_⟩|⟨x,len,cap,m,fu,D,Pl,hcs,hb,hl,hm,hmm,_,hx⟩
 ·simp [Value.cells] at hcs
  obtain ⟨rfl,rfl,rfl⟩:=hcs
  exact ⟨[],Nat.le_refl _,by omega,rfl,fun i hi=>by omega⟩
 ·simp [Value.cells] at hcs
  obtain ⟨rfl,rfl,rfl⟩:=hcs
  have key:∃ ls,LyR 0 W (some x) n ls:=lyR_of fun i hi=>by
   have hlm:n≤m:=by rw [hmm];split <;> omega
   obtain ⟨cs',h1,h2⟩:=hx i (by omega)
   rw [ce] at h1
   obtain ⟨_,hlen,hcell⟩:=World.cells?_some h1
   obtain ⟨xs,fk,_,_,_,hxl,hfd⟩:=DataW.trod_struct he h2
   obtain ⟨y0,y1,y2,rfl⟩:=list3 hxl
   obtain ⟨v0,v1,v2,rfl⟩:=list3 hlen
   have t0:=hfd 0 f0 rfl
   have t1:=hfd 1 f1 rfl
   have t2:=hfd 2 f2 rfl
   simp [o0,c0] at t0
   simp [o1,c1] at t1
   simp [o2,c2] at t2
   obtain ⟨z0,e0',_,w0⟩:=DataW.trod_string u0 t0
   obtain ⟨z1,e1',_,w1⟩:=DataW.trod_int u1 t1
   obtain ⟨z2,e2',_,w2⟩:=DataW.trod_int u2 t2
   simp only [List.cons.injEq,and_true] at e0' e1' e2'
   subst e0' e1' e2'
   have g0_:=hcell 0 (by omega)
   have g1_:=hcell 1 (by omega)
   have g2_:=hcell 2 (by omega)
   rw [add_add] at g0_ g1_ g2_
   have ex:x=⟨x.block,x.off,none⟩:=by
    obtain ⟨cs0,h10,_⟩:=hx 0 (by omega)
    rw [ce] at h10
    obtain ⟨_,hlen0,hcell0⟩:=World.cells?_some h10
    obtain ⟨w0_,w1_,w2_,rfl⟩:=list3 hlen0
    have h0:=hcell0 0 (by omega)
    rw [add_add,Nat.zero_mul] at h0
    have e0_:x.add (0+0)=x:=by simp [Addr.add]
    rw [e0_] at h0
    exact spot_none (v:=w0_) (by simpa using h0)
   have hs:∀ j v,W.cell? (x.add j)=some v→x=⟨x.block,x.off,none⟩∧W.cell? ⟨x.block,x.off+j,none⟩=some v:=fun j v hv=>by
    rw [ex,addr_plus] at hv
    exact ⟨ex,hv⟩
   have n0:=hs _ _ (by simpa using g0_)
   refine ⟨x.block,x.off,z0,z1,z2,by rw [← n0.1],n0.2,?_,?_⟩
   ·rw [Nat.add_assoc];exact (hs _ _ (by simpa using g1_)).2
   ·rw [Nat.add_assoc];exact (hs _ _ (by simpa using g2_)).2
  obtain ⟨ls,hls⟩:=key
  exact ⟨ls,hl,by unfold maxLen at hm;omega,hls⟩
theorem open_net {H:Type} {enc:TypeId×Value→H} {P:Program} {W:World} {r:Reach} {b0:Nat} {t e0 e1:TypeId} {g0 g1 f0 f1 f2:Field} {v:Value} {d:DataW H} {ps:List MemPlace}
  (hs:P.underlying t=some (.struct #[g0,g1])) (hone:oneCellFields P #[g0,g1]=true) (hC:P.cellsOf t=2)
  (t0:P.underlying g0.type=some (.slice e0)) (u0:P.underlying e0=some (.int .i64)) (c0:P.cellsOf e0=1)
  (t1:P.underlying g1.type=some (.slice e1)) (he:P.underlying e1=some (.struct #[f0,f1,f2])) (ce:P.cellsOf e1=3)
  (o0:f0.offset=0) (o1:f1.offset=1) (o2:f2.offset=2) (k0:P.cellsOf f0.type=1) (k1:P.cellsOf f1.type=1) (k2:P.cellsOf f2.type=1)
  (v0:P.underlying f0.type=some .string) (v1:P.underlying f1.type=some (.int .i64)) (v2:P.underlying f2.type=some (.int .i64))
  (hv:Value.okWide P W r b0 t v) (h:DataW.Trod enc P W 0 (fun _=>true) true t v d ps):
  ∃ (a:Option Addr) (n c:Nat) (z:Nat→Int) (a':Option Addr) (n' c':Nat) (ls:List Ly),v = .agg #[.slice a n c,.slice a' n' c']∧RowN .i64 W a n c z∧LayN W a' n' c' ls:=by
 obtain ⟨x0,x1,y0,y1,m,rfl,_,_,h0,h1⟩:=open_agg2 hs hone hC hv h
 obtain ⟨a,n,c,ea⟩:=slice_form t0 h0
 obtain ⟨a',n',c',ea'⟩:=slice_form t1 h1
 simp only [List.cons.injEq,and_true] at ea ea'
 subst ea ea'
 obtain ⟨z,hz⟩:=open_rowN (d:=y0.1) (ps:=y0.2) t0 u0 c0 ⟨m,h0⟩
 obtain ⟨ls,hls⟩:=open_lays (d:=y1.1) (ps:=y1.2) t1 he ce o0 o1 o2 k0 k1 k2 v0 v1 v2 ⟨m,h1⟩
 exact ⟨a,n,c,z,a',n',c',ls,rfl,hz,hls⟩
end Go.Proofs.YtiampagapgjedaaGreatDoor.Wd
