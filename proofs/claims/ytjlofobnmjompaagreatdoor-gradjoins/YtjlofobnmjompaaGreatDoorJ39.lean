/- The laws' own helpers of stage 14: is an example light, numbers again and again, are two rows of Wides alike, is a net tame. · The laws' own helpers of stage 14: is a net tame, are two rows of numbers alike, the net of one number. · Rows of Wides that a call makes and fills; what the laws' awake and GradKnown ask, reckoned. · Two rows of Wides, joined. · A row added to sums. -/
import Derived.Test.YtjlofobnmjompaaGreatDoorJ35
import Derived.Test.YtjlofobnmjompaaGreatDoorJ36
import Derived.Test.YtjlofobnmjompaaGreatDoorJ38
import Derived.Laws.StructEq
import Derived.Test.YtjlofobnmjompaaGreatDoorJ07
import Derived.BigQuiet
set_option linter.unusedVariables false
set_option linter.unusedSimpArgs false
set_option maxHeartbeats 16000000
set_option maxRecDepth 16000
namespace Go.Proofs.YtjlofobnmjompaaGreatDoor.Wd
open Go.RowKit Fx
theorem wide_eq (a b c d:Int) (W:World):Sem.run Tryz.prog (Op.equalIn 10000 45 (.agg #[.int .i64 a,.int .u64 b]) (.agg #[.int .i64 c,.int .u64 d])) W = .ok (decide ((a,b)=(c,d))) W:=by
 rw [show (10000:Nat)=9999+1 from rfl,run_equalIn_struct _ _ _ _ _ (by kernel_rfl) (by kernel_rfl)]
 go_simp
 by_cases h2:a=c <;> by_cases h3:b=d <;> simp [h2,h3]
theorem list_ext0 {a b:List Int} (h:a.length=b.length) (h2:∀ i,i < a.length→a.getD i 0=b.getD i 0):a=b:=by
 refine List.ext_getElem h fun i hi hj=>?_
 have:=h2 i hi
 rwa [List.getD_eq_getElem?_getD,List.getElem?_eq_getElem hi,List.getD_eq_getElem?_getD,List.getElem?_eq_getElem hj] at this
theorem alike10_any (p p2:Option Addr) (n c n2 c2:Nat) (a b:List Int) (hn:n≤1073741824) (w:World) (h1:Nums .i64 w (.slice p n c) a) (h2:Nums .i64 w (.slice p2 n2 c2) b):
  Calls Tryz.prog 19 #[.slice p n c,.slice p2 n2 c2] w fun e w'=>e = .returned (.bool (decide (a=b)))∧Below w.heap.size w w':=by
 haveI:Nonempty World:=⟨w⟩
 obtain ⟨r,er⟩:∃ r:Bool,decide (a=b)=r:=⟨_,rfl⟩
 have HR:Hid (decide (a=b)=r):=er
 obtain ⟨_,_,_,e1,HA⟩:=h1.lst
 cases e1
 obtain ⟨_,_,_,e2,HC⟩:=h2.lst
 cases e2
 rw [er]
 clear er h1 h2
 go_enter Tryz.func19,Tryz.ntmps19
 by_cases hnn:n=n2
 case neg=>
  have er:r=false:=by rw [← HR.out,decide_eq_false fun h=>hnn (by rw [← HA.out.1,← HC.out.1,h])]
  subst er
  have hm':((n:Int) != (n2:Int))=true:=by simpa using (show (n:Int)≠(n2:Int) by omega)
  have hm2:¬ ((n:Int)=(n2:Int)):=by omega
  go_wp2
  go_ret
  exact ⟨rfl,Below.refl _ _⟩
 subst hnn
 go_wp2_with fail
 go_loopg [5] n (fun gg v wr=>∃ (k:Nat),k≤n∧gg=n - k∧v = .int .i64 (k:Int)∧Hid (∀ i,i < k→a.getD i 0=b.getD i 0)∧Hid (Below w.heap.size w wr))
 case atStart=>exact ⟨0,by omega,by omega,rfl,fun i hi=>by omega,Below.refl _ _⟩
 case round=>
  obtain ⟨k,hk,hg,rfl,Hx,HB⟩:=hrel
  by_cases hkn:k < n
  ·have hk':(k:Int) < (n:Int):=by omega
   obtain ⟨qa,oa,rfl,a1⟩:=HA.out.2 k hkn
   obtain ⟨qb,ob,rfl,b1⟩:=HC.out.2 k hkn
   have a0:=cell_low a1 HB.out
   have b0:=cell_low b1 HB.out
   obtain ⟨u,eu⟩:∃ u,a.getD k 0=u:=⟨_,rfl⟩
   obtain ⟨v,ev⟩:∃ v,b.getD k 0=v:=⟨_,rfl⟩
   rw [eu] at a0
   rw [ev] at b0
   clear a1 b1
   by_cases he:u=v
   ·subst he
    have HN:Hid (∀ i,i < k+1→a.getD i 0=b.getD i 0):=fun i hi=>by
     rcases Nat.lt_succ_iff_lt_or_eq.1 hi with h2|rfl
     ·exact Hx.out i h2
     ·rw [eu,ev]
    clear eu ev
    go_wp2
    go_region
    go_wp2
    go_roundg (n - (k+1))
    case measure=>omega
    case rel=>exact ⟨k+1,by omega,rfl,by first|rfl|simp,HN,HB.out.trans ⟨rfl,rfl,rfl,Nat.le_refl _,fun _ _=>rfl⟩⟩
   ·have er:r=false:=by rw [← HR.out,decide_eq_false fun h=>he (by rw [← eu,← ev,h])]
    subst er
    have he2:(u != v)=true:=by simpa using he
    clear eu ev
    go_wp2
    go_region
    go_wp2
    go_ret
    exact ⟨rfl,HB.out.trans ⟨rfl,rfl,rfl,Nat.le_refl _,fun _ _=>rfl⟩⟩
  ·obtain rfl:k=n:=by omega
   have er:r=true:=by
    rw [← HR.out,decide_eq_true (list_ext0 (by rw [HA.out.1,HC.out.1]) fun i hi=>Hx.out i (by rw [← HA.out.1];exact hi))]
   subst er
   go_wp2
   go_ret
   exact ⟨rfl,HB.out⟩
theorem nP_pos {d:List Int} {ls:List Ly} (h:nE d ls=0):0≤nP d ls:=by
 obtain ⟨S,hf,hs,ht⟩:=net_good h
 have:=cntP_le (NetOk.of hf hs) 0 (Nat.zero_le _)
 rw [(nE_ok hf hs ht).2.2]
 exact this
/-- A row of n Wides from the start of block g on, which may be written. -/
def WRow (W:World) (g n:Nat) (l:List Int):Prop:=l.length=n∧(∀ y,y∈l→InW y)∧∀ i,i < n→LieA W g (i*2) (l.getD i 0)
theorem WRow.up {W W':World} {g n:Nat} {l:List Int} (h:WRow W g n l) (hB:Below W.heap.size W W'):WRow W' g n l:=⟨h.1,h.2.1,fun i hi=>(h.2.2 i hi).up hB⟩
theorem WRow.rd {W:World} {g n:Nat} {l:List Int} (h:WRow W g n l):WdR W (some ⟨g,0,none⟩) n l:=⟨h.1,h.2.1,fun i hi=>⟨g,0,rfl,by
 have a:=h.2.2 i hi
 rw [Nat.zero_add]
 exact ⟨a.2.1,a.2.2.1⟩⟩⟩
theorem WRow.set {W:World} {g n k:Nat} {l:List Int} {y yh yl:Int} (h:WRow W g n l) (hk:k < n) (hy:InW y) (eh:yh=y / 18446744073709551616) (el:yl=y % 18446744073709551616):WRow ((W.setCell ⟨g,k*2,none⟩ (.int .i64 yh)).setCell ⟨g,k*2+1,none⟩ (.int .u64 yl)) g n (l.set k y):=by
 refine ⟨by rw [List.length_set,h.1],fun z hz=>?_,fun i hi=>?_⟩
 ·rcases List.mem_or_eq_of_mem_set hz with h1|h1
  ·exact h.2.1 z h1
  ·rw [h1];exact hy
 ·by_cases e:k=i
  ·subst e
   rw [List.getD_eq_getElem?_getD,List.getElem?_set_self (by rw [h.1];exact hk)]
   exact (h.2.2 k hk).set eh el
  ·rw [List.getD_eq_getElem?_getD,List.getElem?_set_ne e,← List.getD_eq_getElem?_getD]
   exact (h.2.2 i hi).off (by omega)
/-- Wides that were just made: all 0. -/
theorem made_wides {W:World} {B g n:Nat} {e:TypeId} (h:W.ownsRow B e 2 (.slice (some ⟨g,0,none⟩) n n) n (madeCells (Value.agg #[.int .i64 0,.int .u64 0]).cells (n*2)).toList):WRow W g n (List.replicate n 0):=by
 refine ⟨by simp,fun y hy=>?_,fun i hi=>?_⟩
 ·rw [(List.mem_replicate.1 hy).2]
  unfold InW
  omega
 have hf:∀ j,W.frozen? ⟨g,j,none⟩=false:=by
  intro j
  rcases h.2 with ⟨h1,_⟩|⟨q,cap,cur,h1,h2,h3,_⟩
  ·cases h1
  ·cases h1
   unfold World.frozen?
   simp [h3]
 have hz:∀ r,r < 2→(madeCells (Value.agg #[.int .i64 0,.int .u64 0]).cells (n*2)).toList[i*2+r]?=(#[Value.int .i64 0,.int .u64 0]:Array Value)[r]?:=by
  intro r hr
  have e0:(Value.agg #[.int .i64 0,.int .u64 0]).cells=#[Value.int .i64 0,.int .u64 0]:=rfl
  unfold madeCells
  rw [e0,Array.getElem?_toList,Array.getElem?_map,Array.getElem?_range]
  rw [if_pos (by omega)]
  have e1:(i*2+r) % 2=r:=by omega
  simp only [Option.map_some]
  match r,hr with
  | 0,_=>rw [show (#[Value.int .i64 0,.int .u64 0]:Array Value).size=2 from rfl,e1];rfl
  | 1,_=>rw [show (#[Value.int .i64 0,.int .u64 0]:Array Value).size=2 from rfl,e1];rfl
 have hc:∀ r u,r < 2→(#[Value.int .i64 0,.int .u64 0]:Array Value)[r]?=some u→W.cell? ⟨g,i*2+r,none⟩=some u:=by
  intro r u hr hu
  have:=World.ownsRow.cells h rfl (i*2+r) u (by rw [hz r hr];exact hu)
  rw [addr_plus,Nat.zero_add] at this
  exact this
 have c0:=hc 0 _ (by omega) rfl
 have c1:=hc 1 _ (by omega) rfl
 have e:(List.replicate n (0:Int)).getD i 0=0:=by
  rw [List.getD_eq_getElem?_getD,List.getElem?_replicate]
  split <;> rfl
 rw [e]
 exact ⟨wcell_lt c0,c0,c1,hf _,hf _⟩
/-- The first k numbers joined, nothing behind. -/
def jnK (a b:List Int) (n:Nat):Nat→List Int
 | 0=>List.replicate n 0
 | k+1=>(jnK a b n k).set k (wr (a.getD k 0+b.getD k 0))
theorem jnK_len (a b:List Int) (n:Nat):∀ k,(jnK a b n k).length=n
 | 0=>by simp [jnK]
 | k+1=>by rw [jnK,List.length_set,jnK_len a b n k]
theorem jnK_at (a b:List Int) (n:Nat):∀ k j,j < n→(jnK a b n k).getD j 0=if j < k then wr (a.getD j 0+b.getD j 0) else 0
 | 0,j,hj=>by
  rw [jnK,List.getD_eq_getElem?_getD,List.getElem?_replicate,if_pos hj]
  rfl
 | k+1,j,hj=>by
  rw [jnK]
  by_cases e:k=j
  ·subst e
   rw [List.getD_eq_getElem?_getD,List.getElem?_set_self (by rw [jnK_len];exact hj),if_pos (by omega)]
   rfl
  ·rw [List.getD_eq_getElem?_getD,List.getElem?_set_ne e,← List.getD_eq_getElem?_getD,jnK_at a b n k j hj]
   by_cases h:j < k
   ·rw [if_pos h,if_pos (by omega)]
   ·rw [if_neg h,if_neg (by omega)]
theorem jnK_end (a b:List Int):jnK a b a.length a.length=addW a b:=by
 refine list_ext0 (by rw [jnK_len,addW_len]) fun i hi=>?_
 rw [jnK_len] at hi
 rw [jnK_at a b _ _ i hi,if_pos hi]
 unfold addW
 rw [List.getD_eq_getElem?_getD (l:=(List.range a.length).map _),List.getElem?_map,List.getElem?_range hi]
 rfl
/-- A sum in the making: its first k numbers have had a row's added. -/
def adK (s x:List Int):Nat→List Int
 | 0=>s
 | k+1=>(adK s x k).set k (wr ((adK s x k).getD k 0+x.getD k 0))
theorem adK_len (s x:List Int):∀ k,(adK s x k).length=s.length
 | 0=>rfl
 | k+1=>by rw [adK,List.length_set,adK_len s x k]
theorem adK_at (s x:List Int):∀ k j,j < s.length→(adK s x k).getD j 0=if j < k then wr (s.getD j 0+x.getD j 0) else s.getD j 0
 | 0,j,hj=>by rw [adK,if_neg (by omega)]
 | k+1,j,hj=>by
  rw [adK]
  by_cases e:k=j
  ·subst e
   rw [List.getD_eq_getElem?_getD,List.getElem?_set_self (by rw [adK_len];exact hj),if_pos (by omega),adK_at s x k k hj,if_neg (by omega)]
   rfl
  ·rw [List.getD_eq_getElem?_getD,List.getElem?_set_ne e,← List.getD_eq_getElem?_getD,adK_at s x k j hj]
   by_cases h:j < k
   ·rw [if_pos h,if_pos (by omega)]
   ·rw [if_neg h,if_neg (by omega)]
theorem adK_end (s x:List Int):adK s x s.length=addW s x:=by
 refine list_ext0 (by rw [adK_len,addW_len]) fun i hi=>?_
 rw [adK_len] at hi
 rw [adK_at s x _ i hi,if_pos hi]
 unfold addW
 rw [List.getD_eq_getElem?_getD (l:=(List.range s.length).map _),List.getElem?_map,List.getElem?_range hi]
 rfl
theorem wd_all:(Tryz.prog.info? 45).map (fun i=>(i.zero,i.size,i.bytes))=some (some (.agg #[.int .i64 0,.int .u64 0]),2,16):=by kernel_rfl
theorem wide_info:∃ i,Tryz.prog.info? 45=some i∧i.zero=some (.agg #[.int .i64 0,.int .u64 0])∧i.size=2∧i.bytes=16:=by
 have h:=wd_all
 cases h0:Tryz.prog.info? 45 with
 | none=>rw [h0] at h;cases h
 | some i=>
  rw [h0] at h
  simp only [Option.map_some,Option.some.injEq,Prod.mk.injEq] at h
  exact ⟨i,rfl,h.1,h.2.1,h.2.2⟩
/-- The net of one number in and out. -/
abbrev liL:List Ly:=[(kDense,1,0)]
theorem li_nE:nE [1] liL=0:=by decide +kernel
theorem li_nP:nP [1] liL=2:=by decide +kernel
theorem li_of:gof [1] liL 1 [0,0] [8589934592] [4294967296] 0=(0,[-17179869184,-8589934592],4294967296):=by decide +kernel
theorem wd_put {W:World} {g n k:Nat} {l:List Int} {y yh yl:Int} (h:WRow W g n l) (hk:k < n) (hy:InW y) (e:wd y = .agg #[.int .i64 yh,.int .u64 yl]):WRow ((W.setCell ⟨g,k*2,none⟩ (.int .i64 yh)).setCell ⟨g,k*2+1,none⟩ (.int .u64 yl)) g n (l.set k y):=by
 unfold wd at e
 simp only [Value.agg.injEq,Array.mk.injEq,List.cons.injEq,Value.int.injEq,true_and,and_true] at e
 exact h.set hk hy e.1.symm e.2.symm
theorem gjoin_any (p p2:Option Addr) (n c n2 c2:Nat) (a b:List Int) (hn:n≤1048576) (w:World) (h1:WdR w p n a) (h2:WdR w p2 n2 b):
  Calls Tryz.prog 11 #[.slice p n c,.slice p2 n2 c2] w fun e w'=>∃ v,e = .returned (.tuple #[v,.int .i64 (if n=n2 then 0 else 4)])∧Below w.heap.size w w'∧(n≠n2→v = .slice none 0 0)∧(n=n2→∃ g,v = .slice (some ⟨g,0,none⟩) n n∧w.heap.size≤g∧WRow w' g n (addW a b)):=by
 haveI:Nonempty World:=⟨w⟩
 have HK:Hid (WdR w p n a∧WdR w p2 n2 b):=⟨h1,h2⟩
 clear h1 h2
 by_cases hnn:n=n2
 case neg=>
  rw [if_neg hnn]
  go_enter Tryz.func11,Tryz.ntmps11
  have hm':((n:Int) != (n2:Int))=true:=by simpa using (show (n:Int)≠(n2:Int) by omega)
  have hm2:¬ ((n:Int)=(n2:Int)):=by omega
  go_wp2
  exact bodyPost_ret (v:=.tuple #[.slice none 0 0,.int .i64 4]) (by simp [results,Tryz.results11,go_sem]) rfl ⟨_,rfl,Below.refl _ _,fun _=>rfl,fun h=>absurd h hnn⟩
 subst hnn
 rw [if_pos rfl]
 obtain ⟨i0,hi,hz0,hz1,hz2⟩:=wide_info
 go_enter Tryz.func11,Tryz.ntmps11
 go_wp2_with (at_make;refine wpList_make_full w rfl (.tmp 14) (.tmp 14) 35 rfl w.heap.size 45 i0 _ 2 Tryz.underlying35 hi hz0 hz1 .i64 .i64 n n n rfl rfl rfl rfl (by rw [hz2];omega) (by unfold maxLen;omega) (Nat.le_refl _) ?_;intro w3 hown hgrow;have B3:Below w.heap.size w w3:=Below.grown (Below.refl _ _) hgrow (Nat.le_refl _) (fun j hj=>by cases hj);have H3:Hid (WRow w3 w.heap.size n (jnK a b n 0)):=made_wides hown;clear hown hgrow)
 have HB3:Hid (Below w.heap.size w w3):=B3
 clear B3 hi hz0 hz1 hz2
 go_wp2_with fail
 go_loopg [18] n (fun gg i wr=>∃ (k:Nat),k≤n∧gg=n - k∧i = .int .i64 (k:Int)∧Hid (WRow wr w.heap.size n (jnK a b n k))∧Hid (Below w.heap.size w wr))
 case atStart=>exact ⟨0,by omega,by omega,by first|rfl|simp,H3,HB3⟩
 case round=>
  obtain ⟨k,hk,hg,rfl,HR,HB⟩:=hrel
  obtain ⟨R1,eR1⟩:∃ R1:World,R1=wr:=⟨_,rfl⟩
  subst eR1
  by_cases hkn:k < n
  ·have hk':(k:Int) < (n:Int):=by omega
   obtain ⟨qa,oa,rfl,a0,a1⟩:=HK.out.1.2.2 k hkn
   obtain ⟨qb,ob,rfl,b0,b1⟩:=HK.out.2.2.2 k hkn
   replace a0:=cell_low a0 HB.out
   replace a1:=cell_low a1 HB.out
   replace b0:=cell_low b0 HB.out
   replace b1:=cell_low b1 HB.out
   obtain ⟨u,eu⟩:∃ u,a.getD k 0=u:=⟨_,rfl⟩
   obtain ⟨v,ev⟩:∃ v,b.getD k 0=v:=⟨_,rfl⟩
   have wu:InW u:=HK.out.1.2.1 u (by rw [← eu,List.getD_eq_getElem?_getD,List.getElem?_eq_getElem (by rw [HK.out.1.1];exact hkn)];exact List.getElem_mem _)
   have wv:InW v:=HK.out.2.2.1 v (by rw [← ev,List.getD_eq_getElem?_getD,List.getElem?_eq_getElem (by rw [HK.out.2.1];exact hkn)];exact List.getElem_mem _)
   rw [eu] at a0 a1
   rw [ev] at b0 b1
   obtain ⟨u1,f1⟩:∃ x,u / 18446744073709551616=x:=⟨_,rfl⟩
   obtain ⟨u2,f2⟩:∃ x,u % 18446744073709551616=x:=⟨_,rfl⟩
   obtain ⟨v1,f3⟩:∃ x,v / 18446744073709551616=x:=⟨_,rfl⟩
   obtain ⟨v2,f4⟩:∃ x,v % 18446744073709551616=x:=⟨_,rfl⟩
   obtain ⟨s,es⟩:∃ s,wr (u+v)=s:=⟨_,rfl⟩
   obtain ⟨s1,f5⟩:∃ x,s / 18446744073709551616=x:=⟨_,rfl⟩
   obtain ⟨s2,f6⟩:∃ x,s % 18446744073709551616=x:=⟨_,rfl⟩
   have es2:wd s = .agg #[.int .i64 s1,.int .u64 s2]:=by unfold wd;rw [f5,f6]
   have cA:Hid (∀ W,Below R1.heap.size R1 W→Calls Tryz.prog 17 #[.agg #[.int .i64 u1,.int .u64 u2],.agg #[.int .i64 v1,.int .u64 v2]] W fun e w'=>e = .returned (.agg #[.int .i64 s1,.int .u64 s2])∧Below W.heap.size W w'):=fun W _=>by
    have:=add_any u v wu wv W
    rw [es,es2] at this
    unfold wd at this
    rw [f1,f2,f3,f4] at this
    exact this
   have HS:Hid (jnK a b n (k+1)=(jnK a b n k).set k s∧InW s∧wd s = .agg #[.int .i64 s1,.int .u64 s2]):=⟨by rw [jnK,eu,ev,es],by rw [← es];exact wr_rng _,es2⟩
   rw [f1] at a0
   rw [f2] at a1
   rw [f3] at b0
   rw [f4] at b1
   have ka:=cell_lt a0
   have kb:=cell_lt b0
   have LK:=HR.out.2.2 k hkn
   obtain ⟨kg,l0,l1,l2,l3⟩:=LK
   clear eu ev wu wv f1 f2 f3 f4 f5 f6 es es2
   go_wp2_with fail
   refine rel [] 12 35 (by kernel_rfl) rfl rfl (by kernel_rfl) (by rfl) ?_ ?_
   ·intro e he
    simp at he
   apply Exists.intro
   refine ⟨fun x=>?_,?_,?_⟩
   ·simp only [List.take_succ_cons,List.take_zero]
    iterate 10
     refine relQuiet rfl rfl ?_
     apply Exists.intro
     refine ⟨fun F hF hf K hK=>?_,?_⟩
     ·have hFc:=hF.cell
      have hFf:=hF.frozen
      go_big_quiet_op
      first|exact hK|(apply Exists.intro;refine ⟨fun _=>?_,?_⟩;(· fail);exact hK)
     (try simp only [Act.put,List.setIfInBounds_toArray,List.set_cons_zero,List.set_cons_succ])
    refine relQuiet rfl rfl ?_
    apply Exists.intro
    refine ⟨fun F hF hf K hK=>?_,?_⟩
    ·have hFc:=hF.cell
     have hFf:=hF.frozen
     go_big_quiet_op
     first|exact hK|(apply Exists.intro;refine ⟨fun _=>?_,?_⟩;(· exact hF.call (cA.out _ (hF.below _)));exact hK)
    (try simp only [Act.put,List.setIfInBounds_toArray,List.set_cons_zero,List.set_cons_succ])
    refine relQuiet rfl rfl ?_
    apply Exists.intro
    refine ⟨fun F hF hf K hK=>?_,?_⟩
    ·have hFc:=hF.cell
     have hFf:=hF.frozen
     go_big_quiet_op
     first|exact hK|(apply Exists.intro;refine ⟨fun _=>?_,?_⟩;(· fail);exact hK)
    (try simp only [Act.put,List.setIfInBounds_toArray,List.set_cons_zero,List.set_cons_succ])
    refine relEnd ?_
    exact rfl
   ·exact fun x=>rfl
   ·intro w9 xs hB9 hf
    simp only [List.drop_succ_cons,List.drop_zero]
    have HB9:Hid (Below w.heap.size w w9∧WRow w9 w.heap.size n (jnK a b n k)):=⟨bstep HB.out hB9,HR.out.up hB9⟩
    obtain ⟨kg,l0,l1,l2,l3⟩:=HB9.out.2.2.2 k hkn
    have HN:Hid (WRow ((w9.setCell ⟨w.heap.size,k*2,none⟩ (.int .i64 s1)).setCell ⟨w.heap.size,k*2+1,none⟩ (.int .u64 s2)) w.heap.size n (jnK a b n (k+1))∧Below w.heap.size w ((w9.setCell ⟨w.heap.size,k*2,none⟩ (.int .i64 s1)).setCell ⟨w.heap.size,k*2+1,none⟩ (.int .u64 s2))):=⟨by rw [HS.out.1];exact wd_put HB9.out.2 hkn HS.out.2.1 HS.out.2.2,(HB9.out.1.setCell (p:=⟨w.heap.size,k*2,none⟩) (Nat.le_refl _) _).setCell (p:=⟨w.heap.size,k*2+1,none⟩) (Nat.le_refl _) _⟩
    clear hf hB9 a0 a1 b0 b1 ka kb
    go_wp2
    go_roundg (n - (k+1))
    case measure=>omega
    case rel=>exact ⟨k+1,by omega,rfl,by first|rfl|simp,HN.out.1,HN.out.2⟩
  ·obtain rfl:k=n:=by omega
   go_wp2
   exact bodyPost_ret (v:=.tuple #[.slice (some ⟨w.heap.size,0,none⟩) k k,.int .i64 0]) (by simp [results,Tryz.results11,go_sem]) rfl ⟨_,rfl,HB.out,fun h=>absurd rfl h,fun _=>⟨_,rfl,Nat.le_refl _,by
    have:=HR.out
    have e:=jnK_end a b
    rw [HK.out.1.1] at e
    rw [e] at this
    exact this⟩⟩
theorem WRow.stay {W W':World} {g n b:Nat} {l:List Int} (h:WRow W g n l) (hs:Stay b W W') (hg:g≠b):WRow W' g n l:=⟨h.1,h.2.1,fun i hi=>(h.2.2 i hi).stay hs hg⟩
theorem addrow_any (g n:Nat) (s x:List Int) (hn:n≤1048576) (p:Option Addr) (c:Nat) (hx:RI x) (w:World) (hS:WRow w g n s) (hX:∀ W',Stay g w W'→Nums .i64 W' (.slice p n c) x):
  Calls Tryz.prog 30 #[.slice (some ⟨g,0,none⟩) n n,.slice p n c] w fun e w'=>e = .returned (.tuple #[])∧WRow w' g n (addW s x)∧Stay g w w'∧Below g w w':=by
 haveI:Nonempty World:=⟨w⟩
 have HK:Hid ((∀ W',Stay g w W'→Nums .i64 W' (.slice p n c) x)∧RI x∧s.length=n):=⟨hX,hx,hS.1⟩
 have H0:Hid (WRow w g n (adK s x 0)):=hS
 clear hX hx hS
 go_enter Tryz.func30,Tryz.ntmps30
 go_wp2_with fail
 go_loopg [8] n (fun gg i wr=>∃ (k:Nat),k≤n∧gg=n - k∧i = .int .i64 (k:Int)∧Hid (WRow wr g n (adK s x k))∧Hid (Stay g w wr∧Below g w wr))
 case atStart=>exact ⟨0,by omega,by omega,by first|rfl|simp,H0,Stay.refl _ _,Below.refl _ _⟩
 case round=>
  obtain ⟨k,hk,hg,rfl,HR,HB⟩:=hrel
  obtain ⟨R1,eR1⟩:∃ R1:World,R1=wr:=⟨_,rfl⟩
  subst eR1
  by_cases hkn:k < n
  ·have hk':(k:Int) < (n:Int):=by omega
   obtain ⟨_,_,_,e9,hps⟩:=(HK.out.1 R1 HB.out.1).lst
   cases e9
   obtain ⟨q,o,rfl,hc⟩:=hps.out.2 k hkn
   obtain ⟨v,ev⟩:∃ v,x.getD k 0=v:=⟨_,rfl⟩
   obtain ⟨u,eu⟩:∃ u,(adK s x k).getD k 0=u:=⟨_,rfl⟩
   have rv:InR v:=HK.out.2.1 v (by rw [← ev,List.getD_eq_getElem?_getD,List.getElem?_eq_getElem (by rw [hps.out.1];exact hkn)];exact List.getElem_mem _)
   have wu:InW u:=HR.out.2.1 u (by rw [← eu,List.getD_eq_getElem?_getD,List.getElem?_eq_getElem (by rw [HR.out.1];exact hkn)];exact List.getElem_mem _)
   rw [ev] at hc
   obtain ⟨kg,l0,l1,l2,l3⟩:=HR.out.2.2 k hkn
   rw [eu] at l0 l1
   obtain ⟨u1,f1⟩:∃ x,u / 18446744073709551616=x:=⟨_,rfl⟩
   obtain ⟨u2,f2⟩:∃ x,u % 18446744073709551616=x:=⟨_,rfl⟩
   obtain ⟨v1,f3⟩:∃ x,v / 18446744073709551616=x:=⟨_,rfl⟩
   obtain ⟨v2,f4⟩:∃ x,v % 18446744073709551616=x:=⟨_,rfl⟩
   obtain ⟨s_,es⟩:∃ s,Wd.wr (u+v)=s:=⟨_,rfl⟩
   obtain ⟨s1,f5⟩:∃ x,s_ / 18446744073709551616=x:=⟨_,rfl⟩
   obtain ⟨s2,f6⟩:∃ x,s_ % 18446744073709551616=x:=⟨_,rfl⟩
   have es2:wd s_ = .agg #[.int .i64 s1,.int .u64 s2]:=by unfold wd;rw [f5,f6]
   have cO:Hid (∀ W,Below R1.heap.size R1 W→Calls Tryz.prog 31 #[.int .i64 v] W fun e w'=>e = .returned (.agg #[.int .i64 v1,.int .u64 v2])∧Below W.heap.size W w'):=fun W _=>by
    have:=of_any v rv W
    unfold wd at this
    rw [f3,f4] at this
    exact this
   have cA:Hid (∀ W,Below R1.heap.size R1 W→Calls Tryz.prog 17 #[.agg #[.int .i64 u1,.int .u64 u2],.agg #[.int .i64 v1,.int .u64 v2]] W fun e w'=>e = .returned (.agg #[.int .i64 s1,.int .u64 s2])∧Below W.heap.size W w'):=fun W _=>by
    have:=Wd.add_any u v wu (InR.w rv) W
    rw [es,es2] at this
    unfold wd at this
    rw [f1,f2,f3,f4] at this
    exact this
   have HS:Hid (adK s x (k+1)=(adK s x k).set k s_∧InW s_∧wd s_ = .agg #[.int .i64 s1,.int .u64 s2]):=⟨by rw [adK,eu,ev,es],by rw [← es];exact wr_rng _,es2⟩
   rw [f1] at l0
   rw [f2] at l1
   have ka:=cell_lt hc
   clear eu ev wu rv f1 f2 f3 f4 f5 f6 es es2 hps
   go_wp2_with fail
   refine rel [] 10 24 (by kernel_rfl) rfl rfl (by kernel_rfl) (by rfl) ?_ ?_
   ·intro e he
    simp at he
   apply Exists.intro
   refine ⟨fun x=>?_,?_,?_⟩
   ·simp only [List.take_succ_cons,List.take_zero]
    iterate 7
     refine relQuiet rfl rfl ?_
     apply Exists.intro
     refine ⟨fun F hF hf K hK=>?_,?_⟩
     ·have hFc:=hF.cell
      have hFf:=hF.frozen
      go_big_quiet_op
      first|exact hK|(apply Exists.intro;refine ⟨fun _=>?_,?_⟩;(· fail);exact hK)
     (try simp only [Act.put,List.setIfInBounds_toArray,List.set_cons_zero,List.set_cons_succ])
    refine relQuiet rfl rfl ?_
    apply Exists.intro
    refine ⟨fun F hF hf K hK=>?_,?_⟩
    ·have hFc:=hF.cell
     have hFf:=hF.frozen
     go_big_quiet_op
     first|exact hK|(apply Exists.intro;refine ⟨fun _=>?_,?_⟩;(· exact hF.call (cO.out _ (hF.below _)));exact hK)
    (try simp only [Act.put,List.setIfInBounds_toArray,List.set_cons_zero,List.set_cons_succ])
    refine relQuiet rfl rfl ?_
    apply Exists.intro
    refine ⟨fun F hF hf K hK=>?_,?_⟩
    ·have hFc:=hF.cell
     have hFf:=hF.frozen
     go_big_quiet_op
     first|exact hK|(apply Exists.intro;refine ⟨fun _=>?_,?_⟩;(· exact hF.call (cA.out _ (hF.below _)));exact hK)
    (try simp only [Act.put,List.setIfInBounds_toArray,List.set_cons_zero,List.set_cons_succ])
    refine relQuiet rfl rfl ?_
    apply Exists.intro
    refine ⟨fun F hF hf K hK=>?_,?_⟩
    ·have hFc:=hF.cell
     have hFf:=hF.frozen
     go_big_quiet_op
     first|exact hK|(apply Exists.intro;refine ⟨fun _=>?_,?_⟩;(· fail);exact hK)
    (try simp only [Act.put,List.setIfInBounds_toArray,List.set_cons_zero,List.set_cons_succ])
    refine relEnd ?_
    exact rfl
   ·intro x
    simp only [putsK,List.foldl_nil]
   ·intro w9 xs hB9 hf
    simp only [List.drop_succ_cons,List.drop_zero]
    have H9:Hid (WRow w9 g n (adK s x k)∧Stay g w w9∧Below g w w9):=⟨HR.out.up hB9,HB.out.1.up hB9,HB.out.2.trans (hB9.mono (Nat.le_of_lt kg))⟩
    clear l0 l1 l2 l3 kg
    obtain ⟨kg,l0,l1,l2,l3⟩:=H9.out.1.2.2 k hkn
    have HN:Hid (WRow ((w9.setCell ⟨g,k*2,none⟩ (.int .i64 s1)).setCell ⟨g,k*2+1,none⟩ (.int .u64 s2)) g n (adK s x (k+1))∧Stay g w ((w9.setCell ⟨g,k*2,none⟩ (.int .i64 s1)).setCell ⟨g,k*2+1,none⟩ (.int .u64 s2))∧Below g w ((w9.setCell ⟨g,k*2,none⟩ (.int .i64 s1)).setCell ⟨g,k*2+1,none⟩ (.int .u64 s2))):=⟨by rw [HS.out.1];exact wd_put H9.out.1 hkn HS.out.2.1 HS.out.2.2,(H9.out.2.1.set _ _).set _ _,(H9.out.2.2.setCell (p:=⟨g,k*2,none⟩) (Nat.le_refl _) _).setCell (p:=⟨g,k*2+1,none⟩) (Nat.le_refl _) _⟩
    clear hf hB9 hc ka H9
    go_wp2
    go_roundg (n - (k+1))
    case measure=>omega
    case rel=>exact ⟨k+1,by omega,rfl,by first|rfl|simp,HN.out.1,HN.out.2⟩
  ·obtain rfl:k=n:=by omega
   go_wp2
   go_end0
   exact ⟨rfl,by
    have:=HR.out
    have e:=adK_end s x
    rw [HK.out.2.2] at e
    rw [e] at this
    exact this,HB.out⟩
end Go.Proofs.YtjlofobnmjompaaGreatDoor.Wd
