/- LossHinges' numbers: a class that stands out by One or more has no loss. · LossHinges: a class that stands out by One or more has no loss. -/
import Derived.Test.YtpdkkcnmgiihcaaGreatDoorL21
import Derived.Test.YtpdkkcnmgiihcaaGreatDoorL19
import Derived.BigQuiet
import Derived.Deep.CutBlock
set_option linter.unusedVariables false
set_option linter.unusedSimpArgs false
set_option maxHeartbeats 16000000
set_option maxRecDepth 16000
namespace Go.Proofs.YtpdkkcnmgiihcaaGreatDoor.Wd
open Go.RowKit Fx
def whl (l:List Int):List Int:=l.map fun v=>v*4294967296
def S16 (l:List Int):Prop:=∀ i,-32768≤l.getD i 0∧l.getD i 0≤32767
theorem whl_at (l:List Int) (i:Nat):(whl l).getD i 0=l.getD i 0*4294967296:=by
 unfold whl
 rw [List.getD_eq_getElem?_getD,List.getD_eq_getElem?_getD,List.getElem?_map]
 cases l[i]? with
 | none=>rfl
 | some v=>rfl
theorem but_at {m:Nat} {a t:Int} {c i:Nat} (hi:i < m):(butV m a (c:Int) t).getD i 0=if i=c then t else a:=by
 unfold butV
 rw [Int.toNat_natCast,List.getD_eq_getElem?_getD,List.getElem?_set]
 by_cases h:c=i
 ·subst h
  rw [if_pos rfl,if_pos rfl,List.length_replicate,if_pos hi]
  rfl
 ·rw [if_neg h,if_neg (fun e=>h e.symm),List.getElem?_replicate,if_pos hi]
  rfl
theorem sum_one' {f:Nat→Int} {c:Nat}:∀ n,(∀ i,i < n→i≠c→f i=0)→sumI f n=if c < n then f c else 0
 | 0,_=>rfl
 | n+1,h=>by
  have ih:=sum_one' n fun i hi hc=>h i (by omega) hc
  show sumI f n+f n=_
  rw [ih]
  by_cases hc:c < n
  ·rw [if_pos hc,if_pos (by omega),h n (by omega) (by omega),Int.add_zero]
  ·rw [if_neg hc]
   by_cases e:c=n
   ·subst e
    rw [if_pos (by omega),Int.zero_add]
   ·rw [if_neg (by omega),h n (by omega) (fun e'=>e e'.symm),Int.add_zero]
theorem mul_whole {a b:Int} (h:InR (a*b)):Fx.mulI a (b*4294967296)=a*b:=by
 rw [Fx.mulI_rnd,← Int.mul_assoc,show (4294967296:Int)=((4294967296:Nat):Int) from rfl,Fx.rnd_mul _ _ (by omega),Fx.hold_in h.1 h.2]
theorem hg_T {n:Nat} {l:List Int} (hx:RwP n (whl l)) (hs:S16 l) {c:Nat} (hc:c < n):hgT n (c:Int) (whl l) = -(l.getD c 0*4294967296):=by
 have hA:∀ i,i < n→(mp2 Fx.mulI (whl l) (hgA n (c:Int))).getD i 0=if i=c then -(l.getD c 0*4294967296) else 0:=fun i hi=>by
  rw [mp2_at _ _ _ _ (by rw [hx.l];exact hi),whl_at]
  unfold hgA
  rw [but_at hi]
  have hb:=hs i
  by_cases e:i=c
  ·subst e
   rw [if_pos rfl,if_pos rfl]
   have:=mul_whole (a:=l.getD i 0*4294967296) (b:=-1) (by unfold InR;omega)
   rw [show (-1:Int)*4294967296 = -4294967296 by decide] at this
   rw [this]
   omega
  ·rw [if_neg e,if_neg e]
   have:=mul_whole (a:=l.getD i 0*4294967296) (b:=0) (by unfold InR;omega)
   simpa using this
 unfold hgT totalI
 rw [(hx.map2 _).l,sum_one' (c:=c) n fun i hi hne=>by rw [hA i hi,if_neg hne],if_pos hc,hA c hc,if_pos rfl]
 have hb:=hs c
 exact Fx.hold_in (by omega) (by omega)
/-- What each place gives. -/
def hgv (l:List Int) (c i:Nat):Int:=if i=c then 0 else if l.getD i 0 - l.getD c 0+1 < 0 then 0 else (l.getD i 0 - l.getD c 0+1)*4294967296
theorem hg_8 {n:Nat} {l:List Int} (hx:RwP n (whl l)) (hs:S16 l) {c:Nat} (hc:c < n) (i:Nat) (hi:i < n):(h8V n (c:Int) (whl l)).getD i 0=hgv l c i:=by
 have r5:RwP n (h5V n (c:Int) (whl l)):=hx.map _
 have r6:RwP n (h6V n (c:Int) (whl l)):=r5.map2 _
 have r7:RwP n (h7V n (c:Int) (whl l)):=r6.map _
 have hb:=hs i
 have hb2:=hs c
 have e5:(h5V n (c:Int) (whl l)).getD i 0=(l.getD i 0 - l.getD c 0)*4294967296:=by
  unfold h5V
  rw [hg_T hx hs hc,List.getD_eq_getElem?_getD,List.getElem?_map,List.getElem?_eq_getElem (by rw [hx.l];exact hi)]
  have e:=whl_at l i
  rw [List.getD_eq_getElem?_getD,List.getElem?_eq_getElem (by rw [hx.l];exact hi),Option.getD_some] at e
  simp only [Option.map_some,Option.getD_some]
  rw [e,Fx.hold_in (by omega) (by omega)]
  omega
 have e6:(h6V n (c:Int) (whl l)).getD i 0=if i=c then 0 else (l.getD i 0 - l.getD c 0+1)*4294967296:=by
  unfold h6V
  rw [mp2_at _ _ _ _ (by rw [r5.l];exact hi),e5]
  unfold hgB
  rw [but_at hi]
  by_cases e:i=c
  ·subst e
   rw [if_pos rfl,if_pos rfl,Fx.hold_in (by omega) (by omega)]
   omega
  ·rw [if_neg e,if_neg e,Fx.hold_in (by omega) (by omega)]
   omega
 have e7:(h7V n (c:Int) (whl l)).getD i 0=hgv l c i:=by
  unfold h7V
  have h6:=e6
  rw [List.getD_eq_getElem?_getD,List.getElem?_eq_getElem (by rw [r6.l];exact hi),Option.getD_some] at h6
  rw [List.getD_eq_getElem?_getD,List.getElem?_map,List.getElem?_eq_getElem (by rw [r6.l];exact hi)]
  simp only [Option.map_some,Option.getD_some]
  rw [h6,Fx.bend_1]
  unfold hgv
  by_cases e:i=c
  ·rw [if_pos e,if_pos e]
   rfl
  ·rw [if_neg e,if_neg e]
   by_cases h:l.getD i 0 - l.getD c 0+1 < 0
   ·rw [if_pos h,if_pos (by omega)]
   ·rw [if_neg h,if_neg (by omega)]
 unfold h8V
 rw [mp2_at _ _ _ _ (by rw [r7.l];exact hi),e7]
 unfold hgB
 rw [but_at hi]
 unfold hgv
 by_cases e:i=c
 ·rw [if_pos e,if_pos e]
  rfl
 ·rw [if_neg e,if_neg e]
  by_cases h:l.getD i 0 - l.getD c 0+1 < 0
  ·rw [if_pos h]
   rfl
  ·rw [if_neg h]
   have:=mul_whole (a:=(l.getD i 0 - l.getD c 0+1)*4294967296) (b:=1) (by unfold InR;omega)
   rw [Int.one_mul,Int.mul_one] at this
   exact this
theorem sum_le {f:Nat→Int} {M:Int}:∀ n,(∀ i,i < n→f i≤M)→sumI f n≤n*M
 | 0,_=>by simp [sumI]
 | n+1,h=>by
  have:=sum_le n fun i hi=>h i (by omega)
  have:=h n (by omega)
  show sumI f n+f n≤_
  rw [Int.natCast_add,Int.add_mul]
  omega
theorem sum_zero {f:Nat→Int}:∀ n,(∀ i,i < n→0≤f i)→(sumI f n=0↔∀ i,i < n→f i=0)
 | 0,_=>⟨fun _ i hi=>by omega,fun _=>rfl⟩
 | n+1,h=>by
  have ih:=sum_zero n fun i hi=>h i (by omega)
  have hp:=sum_pos n fun i hi=>h i (by omega)
  have hn:=h n (by omega)
  show sumI f n+f n=0↔_
  constructor
  ·intro e i hi
   by_cases e2:i=n
   ·subst e2
    omega
   ·exact ih.1 (by omega) i (by omega)
  ·intro e
   rw [ih.2 fun i hi=>e i (by omega),e n (by omega)]
   rfl
/-- The loss, and when it is none. -/
def mostP (l:List Int) (n c k:Nat):Prop:=∀ i,i < k→i=c∨1≤l.getD c 0 - l.getD i 0
theorem hg_val {n:Nat} {l:List Int} (hx:RwP n (whl l)) (hn:n≤40) (hs:S16 l) {c:Nat} (hc:c < n):0≤Fx.hold (totalI (h8V n (c:Int) (whl l)))∧(Fx.hold (totalI (h8V n (c:Int) (whl l)))=0↔mostP l n c n):=by
 have r8:RwP n (h8V n (c:Int) (whl l)):=((((hx.map _).map2 _).map _).map2 _:RwP n (mp2 Fx.mulI (h7V n (c:Int) (whl l)) (hgB n (c:Int))))
 have hv:∀ i,i < n→0≤hgv l c i∧hgv l c i≤281474976710656:=fun i hi=>by
  have a:=hs i
  have b:=hs c
  unfold hgv
  split
  ·omega
  ·split <;> omega
 have e:totalI (h8V n (c:Int) (whl l))=sumI (hgv l c) n:=by
  unfold totalI
  rw [r8.l]
  have:∀ m,m≤n→sumI (fun k=>(h8V n (c:Int) (whl l)).getD k 0) m=sumI (hgv l c) m:=fun m=>by
   induction m with
   | zero=>intro _;rfl
   | succ m ih=>
    intro hm
    show sumI _ m+(h8V n (c:Int) (whl l)).getD m 0=sumI _ m+hgv l c m
    rw [ih (by omega),hg_8 hx hs hc m (by omega)]
  exact this n (Nat.le_refl _)
 have h1:=sum_pos (f:=hgv l c) n fun i hi=>(hv i hi).1
 have h2:=sum_le (f:=hgv l c) n fun i hi=>(hv i hi).2
 have h3:=sum_zero (f:=hgv l c) n fun i hi=>(hv i hi).1
 have hn':(n:Int)≤40:=by omega
 rw [e,Fx.hold_in (by omega) (by omega)]
 refine ⟨h1,h3.trans ⟨fun h i hi=>?_,fun h i hi=>?_⟩⟩
 ·have:=h i hi
  unfold hgv at this
  by_cases e2:i=c
  ·exact .inl e2
  ·rw [if_neg e2] at this
   right
   by_cases h4:l.getD i 0 - l.getD c 0+1 < 0
   ·omega
   ·rw [if_neg h4] at this
    omega
 ·unfold hgv
  rcases h i hi with e2|e2
  ·rw [if_pos e2]
  ·split
   ·rfl
   ·split
    ·rfl
    ·omega
def mostB (l:List Int) (c:Nat):Nat→Bool
 | 0=>true
 | k+1=>mostB l c k && (decide (k=c) || decide (1≤l.getD c 0 - l.getD k 0))
theorem mostB_iff (l:List Int) (n c:Nat):∀ k,mostB l c k=true↔mostP l n c k
 | 0=>⟨fun _ i hi=>by omega,fun _=>rfl⟩
 | k+1=>by
  have ih:=mostB_iff l n c k
  rw [mostB,Bool.and_eq_true,ih,Bool.or_eq_true,decide_eq_true_eq,decide_eq_true_eq]
  constructor
  ·rintro ⟨h1,h2⟩ i hi
   by_cases e:i=k
   ·subst e
    exact h2
   ·exact h1 i (by omega)
  ·intro h
   exact ⟨fun i hi=>h i (by omega),h k (by omega)⟩
def hgL (l:List Int) (k:Nat):List Int:=(List.range k).map fun i=>l.getD i 0*4294967296
theorem hgL_full {l:List Int} {n:Nat} (h:l.length=n):hgL l n=whl l:=by
 subst h
 unfold hgL whl
 refine List.ext_getElem (by simp) fun i h1 h2=>?_
 have hi:i < l.length:=by simpa using h1
 simp [List.getD_eq_getElem?_getD,hi]
theorem hgL_succ (l:List Int) (k:Nat):hgL l (k+1)=hgL l k++[l.getD k 0*4294967296]:=by
 unfold hgL
 rw [List.range_succ,List.map_append]
 rfl
theorem lhinges_walk (w:World) (hT:Hid (Tz w)) (za:Nat→Int) (n c:Nat) (p:Option Addr) (cl:Int) (r1:RowN .i16 w p n c za) (hcl:-9223372036854775808≤cl∧cl≤9223372036854775807):
  Calls Tryz.prog 6 #[.slice p n c,.int .i64 cl] w fun e w'=>e = .returned (.bool true)∧Below w.heap.size w w':=by
 have hs:S16 (nlst n za):=fun q=>by
  rcases Nat.lt_or_ge q n with hq|hq
  ·have e:=nlst_get n za q hq
   rw [List.getD_eq_getElem?_getD,e]
   have:=r1.wf (za q) (List.mem_map.2 ⟨q,List.mem_range.2 hq,rfl⟩)
   simp [Lit.wf,IntKind.min,IntKind.max,IntKind.signed,IntKind.bits] at this
   show -32768≤za q∧za q≤32767
   omega
  ·rw [List.getD_eq_getElem?_getD,List.getElem?_eq_none (by rw [nlst_len];exact hq)]
   show (-32768:Int)≤0∧(0:Int)≤32767
   omega
 have HA:Hid (Nums .i16 w (.slice p n c) (nlst n za)∧S16 (nlst n za)∧(nlst n za).length=n):=⟨r1.nums,hs,nlst_len _ _⟩
 have hf1:(n:Int)≤9223372036854775807:=by have h1:=r1.1.1;have h2:=r1.1.2.1;omega
 obtain ⟨l,el⟩:∃ l,nlst n za=l:=⟨_,rfl⟩
 rw [el] at HA
 clear el r1 hs
 haveI:Nonempty World:=⟨w⟩
 go_enter Tryz.func6,Tryz.ntmps6
 go_wp2_with fail
 refine (awake13_any w hT).mono ?_
 rintro e wa ⟨rfl,hBa⟩
 have HBa:Hid (Below w.heap.size w wa):=hBa
 clear hBa
 by_cases hn1:n < 1
 ·have:(n:Int) < 1:=by omega
  go_wp2
  go_ret
  exact ⟨rfl,HBa.out⟩
 have hn1':1≤(n:Int):=by omega
 by_cases hn2:40 < n
 ·have:(40:Int) < (n:Int):=by omega
  go_wp2
  go_ret
  exact ⟨rfl,HBa.out⟩
 have hn2':(n:Int)≤40:=by omega
 by_cases hc0:cl < 0
 ·go_wp2
  go_ret
  exact ⟨rfl,HBa.out⟩
 by_cases hc1:(n:Int)≤cl
 ·go_wp2
  go_ret
  exact ⟨rfl,HBa.out⟩
 obtain ⟨ci,rfl⟩:∃ ci:Nat,cl=(ci:Int):=⟨cl.toNat,by omega⟩
 have hci:ci < n:=by omega
 have hci':(ci:Int) < (n:Int):=by omega
 have HX:Hid (∀ q,q < n→∃ b o,p=some ⟨b,o,none⟩∧w.cell? ⟨b,o+q,none⟩=some (.int .i16 (l.getD q 0))):=fun q hq=>by
  obtain ⟨p_,c_,e_,hv⟩:=HA.out.1.view
  cases e_
  exact hv q (by rw [HA.out.2.2];exact hq)
 have HC0:Hid (∃ b o,p=some ⟨b,o,none⟩∧w.cell? ⟨b,o+ci,none⟩=some (.int .i16 (l.getD ci 0))):=HX.out ci hci
 have hd1:decide ((n:Int) < 1)=false:=decide_eq_false (by omega)
 have hd2:decide ((40:Int) < (n:Int))=false:=decide_eq_false (by omega)
 have hd3:decide ((ci:Int) < 0)=false:=decide_eq_false (by omega)
 have hd4:decide ((n:Int)≤(ci:Int))=false:=decide_eq_false (by omega)
 have hd5:decide (n≤ci)=false:=decide_eq_false (by omega)
 clear hc0 hc1 hcl
 go_wp2_with fail
 try simp only [hd1,hd2,hd3,hd4,hd5,Bool.or_self,Bool.or_false,Bool.false_or]
 clear hd1 hd2 hd3 hd4 hd5
 go_loopg [5,6,7] n (fun gg v m i wr=>∃ (k:Nat),k≤n∧gg=n - k∧m = .bool (mostB l ci k)∧i = .int .i64 (k:Int)∧Hid (OwnK .i64 33 wr wa.heap.size v (hgL l k))∧Hid (Below wa.heap.size wa wr))
 case atStart=>exact ⟨0,by omega,by omega,rfl,by first|rfl|simp,OwnK.nil _ _ _ _,Below.refl _ _⟩
 case round=>
  obtain ⟨k,hk,hg,rfl,rfl,HO,hB⟩:=hrel
  obtain ⟨R1,hR1⟩:∃ R1:World,R1=wr:=⟨_,rfl⟩
  subst hR1
  by_cases hkn:k < n
  ·have hk':(k:Int) < (n:Int):=by omega
   obtain ⟨q,o,rfl,hc0⟩:=HX.out k hkn
   obtain ⟨q',o',e',hd0⟩:=HC0.out
   cases e'
   have hBw:Below w.heap.size w R1:=bstep HBa.out hB.out
   have hc1:=cell_low hc0 hBw
   have hd1:=cell_low hd0 hBw
   have hx16:=HA.out.2.1 k
   have hy16:=HA.out.2.1 ci
   obtain ⟨X,eX⟩:∃ X,l.getD k 0=X:=⟨_,rfl⟩
   obtain ⟨Y,eY⟩:∃ Y,l.getD ci 0=Y:=⟨_,rfl⟩
   rw [eX] at hc1 hx16
   rw [eY] at hd1 hy16
   have ltx:=cell_lt hc1
   have HD1:Hid (R1.cell? ⟨q,o+ci,none⟩=some (.int .i16 Y)∧R1.cell? ⟨q,o+k,none⟩=some (.int .i16 X)):=⟨hd1,hc1⟩
   have HM:Hid (mostB l ci (k+1)=(mostB l ci k && (decide (k=ci) || decide (1≤Y - X)))):=by
    show _=_
    rw [mostB,eX,eY]
   have hlk:(hgL l k).length=k:=by simp [hgL]
   have H5:Hid (OwnK .i64 33 (R1.alloc (.cells #[.int .i64 (X*4294967296)] 33)) wa.heap.size u5 (hgL l k)):=HO.out.up (up_alloc R1 _)
   have H6:Hid (Nums .i64 (R1.alloc (.cells #[.int .i64 (X*4294967296)] 33)) (.slice (some ⟨R1.heap.size,0,none⟩) 1 1) [X*4294967296]):=nums_lit (k:=.i64) R1 [X*4294967296] 1 (0,0) rfl
   have H7:Hid ((hgL l k).length+[X*4294967296].length≤1073741824):=by show _≤_;rw [hlk];simp;omega
   have H8:Hid (Below wa.heap.size wa (R1.alloc (.cells #[.int .i64 (X*4294967296)] 33))):=blit hB.out _
   have H9:Hid (Below R1.heap.size R1 (R1.alloc (.cells #[.int .i64 (X*4294967296)] 33))):=up_alloc R1 _
   have HS:Hid (hgL l (k+1)=hgL l k++[X*4294967296]):=by show _=_;rw [hgL_succ,eX]
   obtain ⟨M,eM⟩:∃ M,mostB l ci k=M:=⟨_,rfl⟩
   rw [eM] at HM ⊢
   have HKK:Hid (∀ W,Below wa.heap.size wa W→Below w.heap.size w W):=fun W hW=>bstep HBa.out hW
   have HCW:Hid (w.cell? ⟨q,o+ci,none⟩=some (.int .i16 Y)∧w.cell? ⟨q,o+k,none⟩=some (.int .i16 X)):=⟨by rw [← eY];exact hd0,by rw [← eX];exact hc0⟩
   clear eX eY hBw hc0 hd0 hlk hd1 eM HD1
   go_upto_region 11 with (at_builtin;refine wpList_appendK fixT (by decide) rfl (.tmp 41) (.tmp 48) rfl wa.heap.size _ _ rfl H5.out _ _ rfl H6.out H7.out H8.out.size wa H8.out ?_;intro v5 w5 H5' B5)
   have hBw5:=HKK.out w5 B5
   have hc1:=cell_low HCW.out.2 hBw5
   have hd1:=cell_low HCW.out.1 hBw5
   have lt2:=cell_lt hc1
   have HB5:Hid (Below wa.heap.size wa w5):=B5
   have HO5:Hid (OwnK .i64 33 w5 wa.heap.size v5 (hgL l (k+1))):=by
    show OwnK _ _ _ _ _ _
    rw [HS.out]
    exact H5'.out
   clear B5 H5 H6 H7 H8 H9 H5' HS hBw5 HCW
   cases M with
   | false=>
    have HN:Hid (mostB l ci (k+1)=false):=by show _=_;rw [HM.out];rfl
    clear HM
    go_quiet (fail)
    generalize hw6:World.drewN w5 _=w6
    have hB6:Below w5.heap.size w5 w6:=by rw [← hw6];exact below_drew (Below.refl _ _) _
    have HO6:Hid (OwnK .i64 33 w6 wa.heap.size v5 (hgL l (k+1))):=HO5.out.up hB6
    have HB6:Hid (Below wa.heap.size wa w6):=bstep HB5.out hB6
    clear hw6 hB6
    go_wp2
    go_roundg (n - (k+1))
    case measure=>omega
    case rel=>exact ⟨k+1,by omega,rfl,by rw [HN.out],by first|rfl|simp,HO6,HB6⟩
   | true=>
    by_cases hkc:k=ci
    ·subst hkc
     have HN:Hid (mostB l k (k+1)=true):=by show _=_;rw [HM.out];simp
     clear HM
     go_quiet (fail)
     generalize hw6:World.drewN w5 _=w6
     have hB6:Below w5.heap.size w5 w6:=by rw [← hw6];exact below_drew (Below.refl _ _) _
     have HO6:Hid (OwnK .i64 33 w6 wa.heap.size v5 (hgL l (k+1))):=HO5.out.up hB6
     have HB6:Hid (Below wa.heap.size wa w6):=bstep HB5.out hB6
     clear hw6 hB6
     go_wp2
     go_roundg (n - (k+1))
     case measure=>omega
     case rel=>exact ⟨k+1,by omega,rfl,by rw [HN.out],by first|rfl|simp,HO6,HB6⟩
    ·have hkc1:((k:Int)==(ci:Int))=false:=by simp;omega
     have hkc2:(k==ci)=false:=by simp;omega
     by_cases hxy:1≤Y - X
     ·have HN:Hid (mostB l ci (k+1)=true):=by show _=_;rw [HM.out,decide_eq_true hxy];simp
      have hxd:decide (1≤Y - X)=true:=decide_eq_true hxy
      clear HM hkc
      go_quiet (fail)
      generalize hw6:World.drewN w5 _=w6
      have hB6:Below w5.heap.size w5 w6:=by rw [← hw6];exact below_drew (Below.refl _ _) _
      have HO6:Hid (OwnK .i64 33 w6 wa.heap.size v5 (hgL l (k+1))):=HO5.out.up hB6
      have HB6:Hid (Below wa.heap.size wa w6):=bstep HB5.out hB6
      clear hw6 hB6
      go_wp2
      go_roundg (n - (k+1))
      case measure=>omega
      case rel=>exact ⟨k+1,by omega,rfl,by rw [HN.out],by first|rfl|simp,HO6,HB6⟩
     ·have HN:Hid (mostB l ci (k+1)=false):=by show _=_;rw [HM.out,decide_eq_false hxy,decide_eq_false hkc];rfl
      have hxd:decide (1≤Y - X)=false:=decide_eq_false hxy
      clear HM hkc
      go_quiet (fail)
      generalize hw6:World.drewN w5 _=w6
      have hB6:Below w5.heap.size w5 w6:=by rw [← hw6];exact below_drew (Below.refl _ _) _
      have HO6:Hid (OwnK .i64 33 w6 wa.heap.size v5 (hgL l (k+1))):=HO5.out.up hB6
      have HB6:Hid (Below wa.heap.size wa w6):=bstep HB5.out hB6
      clear hw6 hB6
      go_wp2
      go_roundg (n - (k+1))
      case measure=>omega
      case rel=>exact ⟨k+1,by omega,rfl,by rw [HN.out],by first|rfl|simp,HO6,HB6⟩
  obtain rfl:k=n:=by omega
  rw [hgL_full HA.out.2.2] at HO
  obtain ⟨x,ex⟩:∃ x,whl l=x:=⟨_,rfl⟩
  have hx:RwP k x:=by rw [← ex];exact ⟨by simp [whl,HA.out.2.2],by omega,by omega⟩
  have hrx:RI x:=by
   rw [← ex]
   intro y hy
   obtain ⟨v,hv,rfl⟩:=List.mem_map.1 hy
   obtain ⟨i,hi,e⟩:=List.getElem_of_mem hv
   have:=HA.out.2.1 i
   rw [List.getD_eq_getElem?_getD,List.getElem?_eq_getElem hi,Option.getD_some,e] at this
   omega
  have hval:=hg_val (n:=k) (l:=l) (by rw [ex];exact hx) (by omega) HA.out.2.1 hci
  rw [ex] at hval HO
  obtain ⟨A,eA⟩:∃ A,Fx.hold (totalI (h8V k (ci:Int) x))=A:=⟨_,rfl⟩
  rw [eA,← mostB_iff l k ci k] at hval
  obtain ⟨M,eM⟩:∃ M,mostB l ci k=M:=⟨_,rfl⟩
  rw [eM] at hval ⊢
  have HV:Hid ((0≤A∧(A=0↔M=true))∧Fx.hold (totalI (h8V k (ci:Int) x))=A∧RwP k x∧RI x):=⟨hval,eA,hx,hrx⟩
  obtain ⟨pv,nv,cv,rfl,HLs⟩:=HO.out.nums.lst
  obtain rfl:k=nv:=by rw [← hx.l];exact HLs.out.1
  have hk4:k≤4096:=by omega
  clear eA eM hx hrx hval ex HLs HX HC0 HA
  go_wp2_with fail
  refine (cnew_any R1).mono ?_
  rintro e w1 ⟨tb,rfl,hT1,hB1⟩
  have H1:Hid (TapC w1 R1.heap.size tb []∧Below R1.heap.size R1 w1∧Below w.heap.size w w1):=⟨hT1,hB1,bstep HBa.out (bstep hB.out hB1)⟩
  clear hT1 hB1
  go_wp2_with fail
  refine (row13_any pv k cv x w1 (HO.out.nums.up H1.out.2.1) hk4).mono ?_
  rintro e r2 ⟨g2,rfl,ha2,hb2,_,_,hB2⟩
  go_wp2_with fail
  have cc:=cleaf_any R1.heap.size tb [] NodesG.nil _ _ 1 1 k cv [(k:Int)] x (fun z hz=>by simp at hz;subst hz;omega) HV.out.2.2.2 r2 (H1.out.1.up hB2) ha2 hb2
  rw [(one_ok HV.out.2.2.1).1,(one_ok HV.out.2.2.1).2.1,(one_ok HV.out.2.2.1).2.2] at cc
  refine cc.mono ?_
  rintro e w2 ⟨rfl,hT',hC',_⟩
  have H2:Hid (TapC w2 R1.heap.size tb (one1 k x)∧Below R1.heap.size R1 w2):=⟨hT',(bstep H1.out.2.1 hB2).trans hC'⟩
  clear cc hT' hC' ha2 hb2 hB2 H1
  go_wp2_with fail
  have hF:=hinge_ok (c:=(ci:Int)) HV.out.2.2.1 (one_n k x) (by show 1+9≤512;omega) ⟨by omega,by omega⟩
  have HR1:Hid (Below w.heap.size w R1):=bstep HBa.out hB.out
  have cc:=chinge_any R1.heap.size tb (one1 k x) (one_G HV.out.2.2.1 HV.out.2.2.2) (by show 1≤512;omega) 0 (ci:Int) w2 H2.out.1 (show Hid _ from fun W hW=>hT.out.up (bstep HR1.out (H2.out.2.trans hW)))
  rw [hF.1,hF.2.1,hF.2.2,show (((one1 k x).length:Nat):Int)+8=9 from rfl] at cc
  have HN:Hid (NodesG (hg9 (one1 k x) 0 k (ci:Int) x)∧(hg9 (one1 k x) 0 k (ci:Int) x)[9]?=some ⟨9,8,-1,0,[],[A]⟩):=⟨hgG HV.out.2.2.1 (one_n k x) (by show 1+9≤512;omega) ⟨by omega,by omega⟩ (one_G HV.out.2.2.1 HV.out.2.2.2),by
   have:=hg_last (one1 k x) 0 k (ci:Int) x
   rw [HV.out.2.1] at this
   exact this⟩
  obtain ⟨NS,eNS⟩:∃ NS,hg9 (one1 k x) 0 k (ci:Int) x=NS:=⟨_,rfl⟩
  rw [eNS] at cc HN
  clear hF eNS
  refine cc.mono ?_
  rintro e w3 ⟨rfl,hT',hC',_⟩
  have H3:Hid (TapC w3 R1.heap.size tb NS∧Below w.heap.size w w3):=⟨hT',bstep HR1.out (H2.out.2.trans hC')⟩
  clear cc hT' hC' H2
  go_wp2_with fail
  refine (cvalue_any R1.heap.size tb NS HN.out.1 9 _ HN.out.2 w3 H3.out.1).mono ?_
  rintro e w4 ⟨v4,rfl,h4,hB4⟩
  obtain ⟨s4,t4,rfl,h41,h42⟩:=h4
  obtain ⟨p4,m4,c4,rfl⟩:=h41.form_
  obtain ⟨gv,cv4,rfl,_⟩:=h42.at (by show 0 < 1;omega)
  have HB4:Hid (Below w.heap.size w w4):=bstep H3.out.2 hB4
  have q0:w4.cell? ⟨gv,0,none⟩=some (.int .i64 A):=(h42.cell rfl 0 (by show 0 < 1;omega)).1
  have q1:=cell_lt q0
  have hA0:=HV.out.1.1
  have hAM:=HV.out.1.2
  clear h41 h42 hB4 H3 HN HV
  cases M with
  | true=>
   have hA:A=0:=hAM.2 rfl
   clear hAM hA0
   subst hA
   go_wp2
   go_ret
   exact ⟨rfl,bstep HB4.out (up_alloc _ _)⟩
  | false=>
   have hA:¬ A=0:=fun h=>by have:=hAM.1 h;cases this
   have hA1:(A==0)=false:=by simpa using hA
   clear hAM hA
   go_wp2
   go_ret
   exact ⟨rfl,bstep HB4.out (up_alloc _ _)⟩
end Go.Proofs.YtpdkkcnmgiihcaaGreatDoor.Wd
