/- Tensors: what matm.Flip and matm.sideLast hand back. · Tensors: what slices.Repeat of one number, and tens.New, hand back. Tensors: what the reference's New hands back. -/
import Derived.Test.YtjlofobnmjompaaGreatDoorJ10
import Derived.Test.YtjlofobnmjompaaGreatDoorJ11
import Derived.Test.YtjlofobnmjompaaGreatDoorJ02
import Derived.Test.YtjlofobnmjompaaGreatDoorJ03
import Derived.Laws.CopyOwn
import Derived.Deep.RegionLaw
set_option linter.unusedVariables false
set_option linter.unusedSimpArgs false
set_option maxHeartbeats 16000000
set_option maxRecDepth 16000
namespace Go.Proofs.YtjlofobnmjompaaGreatDoor.Wd
open Go.RowKit Fx
/-- A tensor of two sides. -/
theorem is_two {D0 D1:Nat} {x:List Int} (hx:x.length=D0*D1) (h0:1≤D0) (h1:1≤D1) (hl:D0*D1≤4096):isP [(D0:Int),(D1:Int)] x:=by
 have e:prodN [D0,D1]=D0*D1:=by simp [prodN]
 have en:ntl [(D0:Int),(D1:Int)] = [D0,D1]:=ntl_itl [D0,D1]
 unfold isP
 rw [en]
 refine ⟨⟨by simp,fun y hy=>?_,by rw [e];exact hl⟩,by rw [e];exact hx⟩
 simp at hy
 omega
def flE (d x:List Int):Int:=if isP d x then if d.length=2 then 0 else 4 else 1
def flD (d x:List Int):List Int:=if isP d x∧d.length=2 then [d.getD 1 0,d.getD 0 0] else []
def flV (d x:List Int):List Int:=if isP d x∧d.length=2 then flipV (d.getD 0 0).toNat (d.getD 1 0).toNat x else []
/-- The sides but one. -/
def butO (s:Nat) (side:Int):List Int:=(itl (List.range s)).filter fun i=>decide (i≠side)
def lastO (s:Nat) (side:Int):List Int:=butO s side++[side]
theorem butO_succ (s:Nat) (side:Int):butO (s+1) side=butO s side++if (s:Int)=side then [] else [(s:Int)]:=by
 unfold butO itl
 rw [List.range_succ,List.map_append,List.filter_append]
 congr 1
 by_cases h:(s:Int)=side <;> simp [h]
theorem butO_len (s:Nat) (side:Int):(butO s side).length≤s:=by
 have:=List.length_filter_le (fun i=>decide (i≠side)) (itl (List.range s))
 rw [itl_len,List.length_range] at this
 exact this
theorem sideLast_any (s:Nat) (hs:s≤1000) (side:Int) (hr:InR side) (w:World):
  Calls Tryz.prog 151 #[.int .i64 (s:Int),.int .i64 side] w fun e w'=>∃ v',e = .returned v'∧OwnK .i64 3 w' w.heap.size v' (lastO s side)∧Below w.heap.size w w':=by
 have hs':(s:Int)≤1000:=by omega
 obtain ⟨L,eL⟩:∃ L,lastO s side=L:=⟨_,rfl⟩
 have HL:Hid (lastO s side=L):=eL
 rw [eL]
 unfold InR at hr
 clear eL
 go_enter Tryz.func151,Tryz.ntmps151
 go_wp2_with (at_make;refine wpList_make0K numT (by decide) _ rfl (.const (.int .i64 0)) (.tmp 7) rfl .i64 .i64 _ s rfl rfl rfl (by omega) ?_;intro w1 HO1 B1)
 have HB1:Hid (Below w.heap.size w w1):=B1
 clear B1
 go_loopg [5,10] s (fun gg r i wr=>∃ (k:Nat),k≤s∧gg=s - k∧i = .int .i64 (k:Int)∧Hid (OwnK .i64 3 wr w.heap.size r (butO k side))∧Hid (Below w.heap.size w wr))
 case atStart=>exact ⟨0,by omega,by omega,by first|rfl|simp,HO1,HB1⟩
 case round=>
  obtain ⟨k,hk,hg,rfl,HO,hB⟩:=hrel
  obtain ⟨R0,hR0⟩:∃ R0:World,R0=wr:=⟨_,rfl⟩
  subst hR0
  by_cases hkn:k < s
  ·have hk':(k:Int) < (s:Int):=by omega
   by_cases he:(k:Int)=side
   ·subst he
    have hne:((k:Int) != (k:Int))=false:=by simp
    have H7:Hid (OwnK .i64 3 R0 w.heap.size u5 (butO (k+1) (k:Int))):=by
     show OwnK _ _ _ _ _ _
     rw [butO_succ,if_pos rfl,List.append_nil]
     exact HO.out
    go_wp2
    go_roundg (s - (k+1))
    case measure=>omega
    case rel=>exact ⟨k+1,by omega,rfl,by first|rfl|simp,H7,hB⟩
   ·have hne:((k:Int) != side)=true:=by simp [he]
    have H6:Hid (OwnK .i64 3 (R0.alloc (.cells #[.int .i64 (k:Int)] 3)) w.heap.size u5 (butO k side)):=HO.out.up (up_alloc R0 _)
    have H6n:Hid (Nums .i64 (R0.alloc (.cells #[.int .i64 (k:Int)] 3)) (.slice (some ⟨R0.heap.size,0,none⟩) 1 1) [(k:Int)]):=nums_lit (k:=.i64) R0 [(k:Int)] 1 (0,0) rfl
    have H6b:Hid (Below w.heap.size w (R0.alloc (.cells #[.int .i64 (k:Int)] 3))):=blit hB.out _
    have H6l:Hid ((butO k side).length+[(k:Int)].length≤1073741824):=by
     show _≤_
     have:=butO_len k side
     rw [List.length_singleton]
     omega
    go_wp2_with (at_builtin;refine wpList_appendK numT (by decide) rfl (.tmp 16) (.tmp 18) rfl w.heap.size _ _ rfl H6.out _ [(k:Int)] rfl H6n.out H6l.out H6b.out.size w H6b.out ?_;intro v0 w0 H0 B0)
    have H7:Hid (OwnK .i64 3 w0 w.heap.size v0 (butO (k+1) side)):=by
     show OwnK _ _ _ _ _ _
     rw [butO_succ,if_neg he]
     exact H0.out
    go_roundg (s - (k+1))
    case measure=>omega
    case rel=>exact ⟨k+1,by omega,rfl,by first|rfl|simp,H7,B0⟩
  ·obtain rfl:k=s:=by omega
   have H6:Hid (OwnK .i64 3 (R0.alloc (.cells #[.int .i64 side] 3)) w.heap.size u5 (butO k side)):=HO.out.up (up_alloc R0 _)
   have H6n:Hid (Nums .i64 (R0.alloc (.cells #[.int .i64 side] 3)) (.slice (some ⟨R0.heap.size,0,none⟩) 1 1) [side]):=nums_lit (k:=.i64) R0 [side] 1 (0,0) rfl
   have H6b:Hid (Below w.heap.size w (R0.alloc (.cells #[.int .i64 side] 3))):=blit hB.out _
   have H6l:Hid ((butO k side).length+[side].length≤1073741824):=by
    show _≤_
    have:=butO_len k side
    rw [List.length_singleton]
    omega
   go_wp2_with (at_builtin;refine wpList_appendK numT (by decide) rfl (.tmp 21) (.tmp 23) rfl w.heap.size _ _ rfl H6.out _ [side] rfl H6n.out H6l.out H6b.out.size w H6b.out ?_;intro v0 w0 H0 B0)
   go_ret
   exact ⟨_,rfl,by rw [← HL.out];exact H0.out,B0⟩
end Go.Proofs.YtjlofobnmjompaaGreatDoor.Wd
namespace Go.Proofs.YtjlofobnmjompaaGreatDoor.Wd
open Go.RowKit
theorem OwnK.heap {k:IntKind} {e:TypeId} {W:World} {B g n:Nat} {l:List Int} (h:OwnK k e W B (.slice (some ⟨g,0,none⟩) n n) l) (hn:l.length=n):W.heap[g]?=some (.cells (vals k l).toArray e (0,0))∧B≤g:=by
 subst hn
 rcases h.2 with ⟨h1,_⟩|⟨q,cap,cur,h1,h2,h3,h4,h5,h6,h7⟩
 ·cases h1
 ·cases h1
  have e1:cur=(vals k l).toArray:=by
   rw [Nat.mul_one] at h6 h7
   rw [← h7,List.take_of_length_le (by simp;omega)]
  rw [e1] at h3
  exact ⟨h3,h2⟩
theorem OwnK.of_heap {k:IntKind} {e:TypeId} {W:World} {B g n:Nat} {l:List Int} (h:W.heap[g]?=some (.cells (vals k l).toArray e (0,0))) (hB:B≤g) (hn:l.length=n) (hm:n≤1073741824):OwnK k e W B (.slice (some ⟨g,0,none⟩) n n) l:=by
 subst hn
 refine ⟨by simp [vals],.inr ⟨g,l.length,(vals k l).toArray,rfl,hB,h,Nat.le_refl _,by unfold maxLen;omega,by simp [vals],by rw [Nat.mul_one,List.take_of_length_le (by simp [vals])]⟩⟩
/-- k times X, and noughts. -/
def rep (X:Int) (N k:Nat):List Int:=List.replicate k X++List.replicate (N - k) 0
theorem rep_len (X:Int) (N k:Nat) (h:k≤N):(rep X N k).length=N:=by simp [rep];omega
theorem rep_splice (X:Int) (N k m:Nat) (h:k+m≤N):splice (vals .i64 (rep X N k)) k (vals .i64 (List.replicate m X))=vals .i64 (rep X N (k+m)):=by
 unfold splice vals
 rw [← List.map_take,← List.map_drop,← List.map_append,← List.map_append]
 congr 1
 unfold rep
 rw [List.length_map,List.length_replicate,List.take_append_of_le_length (by simp),List.take_of_length_le (by simp),List.drop_append,List.drop_of_length_le (by simp),List.drop_replicate,List.nil_append,List.length_replicate,← List.append_assoc,List.replicate_append_replicate]
 congr 2
 omega
theorem rep_full (X:Int) (N:Nat):rep X N N=List.replicate N X:=by simp [rep]
theorem rep_zero (X:Int) (N:Nat):rep X N 0=List.replicate N 0:=by simp [rep]
theorem rep_get (X:Int) (N k j:Nat) (v:Value) (m:Nat) (hm:m≤k) (h:(vals .i64 (List.replicate m X))[j]?=some v):(vals .i64 (rep X N k))[j]?=some v:=by
 unfold vals at *
 rw [List.getElem?_map] at *
 have hj:j < m:=by
  rcases Nat.lt_or_ge j m with h'|h'
  ·exact h'
  ·rw [List.getElem?_eq_none (by simp;exact h')] at h;cases h
 rw [List.getElem?_eq_getElem (by simp;exact hj),List.getElem_replicate] at h
 unfold rep
 rw [List.getElem?_append_left (by simp;omega),List.getElem?_eq_getElem (by simp;omega),List.getElem_replicate]
 exact h
theorem one_src {w w2:World} {p:Option Addr} {c:Nat} {X:Int} (h:Nums .i64 w (.slice p 1 c) [X]) (hB:Below w.heap.size w w2):Hid (∃ ad,p=some ad∧∀ j v,(vals .i64 (List.replicate 1 X))[j]?=some v→w2.cell? (ad.add j)=some v):=by
 rcases h.up hB with ⟨_,h0⟩|⟨ad,c',e1,hc⟩
 ·cases h0
 ·cases e1
  exact ⟨ad,rfl,hc⟩
theorem heap_cell {k:IntKind} {W:World} {g:Nat} {l:List Int} {e:TypeId} (h:W.heap[g]?=some (.cells (vals k l).toArray e (0,0))) (j:Nat) (v:Value) (hj:(vals k l)[j]?=some v):W.cell? ((⟨g,0,none⟩:Addr).add j)=some v:=by
 rw [addr_plus,Nat.zero_add]
 unfold World.cell?
 simp only [h]
 simpa using hj
theorem vals_len (k:IntKind) (l:List Int):(vals k l).length=l.length:=by simp [vals]
theorem repeat_one (p:Option Addr) (c:Nat) (X:Int) (N:Nat) (hN:1≤N∧N≤4096) (w:World) (hv:Nums .i64 w (.slice p 1 c) [X]):
  Calls Tryz.prog 86 #[.slice p 1 c,.int .i64 (N:Int)] w fun e w'=>∃ v',e = .returned v'∧OwnK .i64 23 w' w.heap.size v' (List.replicate N X)∧Below w.heap.size w w':=by
 have cM:Calls Tryz.prog 102 #[.int .u64 1,.int .u64 (N:Int)] w fun e w'=>e = .returned (.tuple #[.int .u64 0,.int .u64 (N:Int)])∧w'=w:=by
  have:=Tryz.bits_Mul 1 N (by decide) (by omega) w
  rw [Nat.one_mul,Nat.div_eq_of_lt (by omega),Nat.mod_eq_of_lt (by omega)] at this
  exact this
 have hN':1≤(N:Int)∧(N:Int)≤4096:=by omega
 have HV:Hid (Nums .i64 w (.slice p 1 c) [X]):=hv
 clear hv
 go_enter Tryz.func86,Tryz.ntmps86
 go_wp2_with fail
 refine cM.mono ?_
 rintro e w1 ⟨rfl,rfl⟩
 clear cM
 go_wp2_with (first
  |(at_make;refine wpList_makeK fixT (by decide) _ rfl (.tmp 29) (.tmp 29) rfl .i64 .i64 N N N rfl rfl rfl rfl (by omega) w1.heap.size w1 (Nat.le_refl _) (Below.refl _ _) ?_;intro w2 HO B0 B1;clear B0;rw [← rep_zero X N] at HO;have HR0:Hid (w2.heap[w1.heap.size]?=some (.cells (vals .i64 (rep X N 0)).toArray 23 (0,0))):=(HO.out.heap (rep_len X N 0 (Nat.zero_le _))).1;have HS:=one_src HV.out B1;clear HO)
  | (have hR:=HR0.out;refine wpList_copy_splice rfl (.tmp 31) (.tmp 32) 24 24 rfl 23 Tryz.underlying24 (by kernel_rfl) _ _ _ _ _ _ rfl rfl w1.heap.size 0 (vals .i64 (rep X N 0)) 23 hR (vals .i64 (List.replicate 1 X)) (by rw [vals_len,List.length_replicate];exact (Nat.min_eq_left hN.1).symm) (fun _=>⟨rfl,HS.out⟩) (by rw [vals_len,vals_len,rep_len X N 0 (by omega),List.length_replicate];omega) (vals_one _ _) w1.heap.size w1 B1 (Nat.le_refl _) ?_;intro w3 H3 B3;rw [rep_splice X N 0 1 (by omega),Nat.zero_add] at H3;clear HR0 HS B1 hR))
 obtain ⟨g,hg⟩:∃ g,w1.heap.size=g:=⟨_,rfl⟩
 have Hg:Hid (w1.heap.size=g):=hg
 rw [hg] at H3 ⊢
 clear hg
 go_loopg [8] (N - 1) (fun gg i wr=>∃ (k:Nat),1≤k∧k≤N∧gg=N - k∧i = .int .i64 (k:Int)∧Hid (wr.heap[g]?=some (.cells (vals .i64 (rep X N k)).toArray 23 (0,0)))∧Hid (Below w1.heap.size w1 wr))
 case atStart=>exact ⟨1,by omega,by omega,by omega,by first|rfl|simp,H3,B3⟩
 case round=>
  obtain ⟨k,hk1,hk,hgg,rfl,HR,hB⟩:=hrel
  by_cases hkn:k < N
  ·have hk':(k:Int) < (N:Int):=by omega
   have hk0:0≤(k:Int):=by omega
   obtain ⟨m,em⟩:∃ m,min k (N - k)=m:=⟨_,rfl⟩
   have hm:1≤m∧k+m≤N∧m≤k:=by omega
   have HM:Hid (min k (N - k)=m):=em
   have hNk:¬ (N=k):=by omega
   have HB1:Hid (Below w1.heap.size w1 wr.drew):=hB.out.trans ⟨rfl,rfl,rfl,Nat.le_refl _,fun _ _=>rfl⟩
   have HC:Hid (∀ j v,(vals .i64 (List.replicate m X))[j]?=some v→wr.drew.cell? ((⟨g,0,none⟩:Addr).add j)=some v):=fun j v hj=>heap_cell (W:=wr.drew) HR.out j v (rep_get X N k j v m (by omega) hj)
   clear em
   go_wp2_with fail
   go_region_law (refine step_copy_splice rfl (.tmp 41) (.tmp 44) 24 24 rfl 23 Tryz.underlying24 (by kernel_rfl) (some ⟨g,k,none⟩) (some ⟨g,0,none⟩) (N - k) (N - k) k N (by simp [Act.eval,Act.put,hNk]) (by simp [Act.eval,Act.put]) g k (vals .i64 (rep X N k)) 23 HR.out (vals .i64 (List.replicate m X)) (by rw [vals_len,List.length_replicate];exact HM.out.symm) (fun _=>⟨rfl,⟨g,0,none⟩,rfl,HC.out⟩) (by rw [vals_len,vals_len,rep_len X N k (by omega),List.length_replicate];omega) (vals_one _ _) w1.heap.size w1 HB1.out (Nat.le_of_eq Hg.out) ?_;intro w4 H4 B4;rw [rep_splice X N k m (by omega)] at H4;rw [show (vals .i64 (List.replicate m X)).length=m by rw [vals_len,List.length_replicate]])
   all_goals
    go_wp2
    go_roundg (N - (k+m))
   case measure=>omega
   case rel=>exact ⟨k+m,by omega,by omega,rfl,by simp [goInt];rw [IntKind.wrap_i64];omega,H4,B4⟩
  ·obtain rfl:k=N:=by omega
   have HF:Hid (OwnK .i64 23 wr w1.heap.size (.slice (some ⟨g,0,none⟩) k k) (List.replicate k X)∧Below w1.heap.size w1 wr):=by
    refine ⟨?_,hB.out⟩
    have:=HR.out
    rw [rep_full] at this
    exact OwnK.of_heap this (Nat.le_of_eq Hg.out) (by simp) (by omega)
   go_wp2
   go_ret
   exact ⟨_,rfl,HF.out⟩
def newE (d:List Int):Int:=if goodN (ntl d) then 0 else 1
def newD (d:List Int):List Int:=if goodN (ntl d) then d else []
def newV (d:List Int) (X:Int):List Int:=if goodN (ntl d) then List.replicate (prodN (ntl d)) X else []
theorem tnew_any (v:Value) (d:List Int) (hd:RI d) (X:Int) (w:World) (h1:Nums .i64 w v d):
  Calls Tryz.prog 67 #[v,.int .i64 X] w fun e w'=>∃ v',e = .returned (.tuple #[v',.int .i64 (newE d)])∧TRes w' w.heap.size v' (newD d) (newV d X)∧Below w.heap.size w w':=by
 have cA:=fun W (hW:Below w.heap.size w W)=>good_any _ d hd W (h1.up hW)
 have cZ:=fun W (hW:Below w.heap.size w W)=>size_any _ d hd W (h1.up hW)
 unfold newE newD newV
 by_cases hg:goodN (ntl d)
 ·rw [decide_eq_true hg] at cA
  rw [sizeN_good hg] at cZ
  rw [if_pos hg,if_pos hg,if_pos hg]
  have cC:=fun W (hW:Below w.heap.size w W)=>cloneI_any _ d (by have:=hg.1;rw [ntl_len] at this;omega) W (h1.up hW)
  have hN:1≤prodN (ntl d)∧prodN (ntl d)≤4096:=⟨hg.pos,hg.2.2⟩
  obtain ⟨N,eN⟩:∃ N,prodN (ntl d)=N:=⟨_,rfl⟩
  rw [eN] at cZ hN ⊢
  clear eN hg h1 hd
  go_enter Tryz.func67,Tryz.ntmps67
  go_wp2_with fail
  generalize hW0:World.alloc _ _=W0
  have HB0:Hid (Below w.heap.size w W0):=by show Below _ _ _;rw [← hW0];go_grown
  have XR:Hid (Cel W0 w.heap.size (.slice none 0 0) (.slice none 0 0)):=celW hW0 (by simp [go_sem])
  clear hW0
  refine (cA W0 HB0.out).mono ?_
  rintro e w1 ⟨rfl,rfl⟩
  clear cA
  go_wp2_with fail
  refine (cC w1 HB0.out).mono ?_
  rintro e w2 ⟨v2,rfl,h2,hB2⟩
  have H2:Hid (OwnK .i64 3 w2 w1.heap.size v2 d∧Below w1.heap.size w1 w2):=⟨h2,hB2⟩
  obtain ⟨p2,n2,c2,rfl,_⟩:=h2.nums.lst
  clear cC h2 hB2
  go_wp2_with fail
  generalize hW3:World.alloc _ _=W3
  have HB3:Hid (Below w2.heap.size w2 W3):=by show Below _ _ _;rw [← hW3];go_grown
  have HX:Hid (Nums .i64 W3 (.slice (some ⟨w2.heap.size,0,none⟩) 1 1) [X]):=by rw [← hW3];exact nums_lit (k:=.i64) w2 [X] 1 (0,0) rfl
  have HB4:Hid (Below w1.heap.size w1 W3∧Below w.heap.size w W3):=⟨bstep H2.out.2 HB3.out,bstep HB0.out (bstep H2.out.2 HB3.out)⟩
  clear hW3
  refine (cZ W3 HB4.out.2).mono ?_
  rintro e w4 ⟨rfl,rfl⟩
  clear cZ
  have cR:=repeat_one _ 1 X N hN w4 HX.out
  go_wp2_with fail
  refine cR.mono ?_
  rintro e w5 ⟨v5,rfl,h5,hB5⟩
  obtain ⟨p5,n5,c5,rfl,_⟩:=h5.nums.lst
  have hBs:=bstep HB4.out.1 hB5
  have HF:Hid (TRes (set2 w5 w.heap.size (.slice p2 n2 c2) (.slice p5 n5 c5)) w.heap.size (.agg #[.slice p2 n2 c2,.slice p5 n5 c5]) d (List.replicate N X)∧Below w.heap.size w (set2 w5 w.heap.size (.slice p2 n2 c2) (.slice p5 n5 c5))):=by
   refine ⟨(TRes.set (H2.out.1.up (bstep HB3.out hB5)) (h5.low HB4.out.1.size) (cell_lt XR.out.1)).low HB0.out.size,below_cell (bstep HB0.out hBs) _ (Nat.le_refl _) _ _⟩
  have xr:=XR.out.up hBs
  have cf:=xr.set (.slice p2 n2 c2) (.slice p5 n5 c5)
  obtain ⟨r0,r1,r2,r3⟩:=xr
  obtain ⟨y0,y1,_,_⟩:=cf
  clear cR h5 hB5 hBs
  go_wp2
  exact bodyPost_ret (v:=.tuple #[.agg #[.slice p2 n2 c2,.slice p5 n5 c5],.int .i64 0]) (by simp [results,Tryz.results67,go_sem,y0,y1]) rfl ⟨_,rfl,HF.out⟩
 ·rw [decide_eq_false hg] at cA
  rw [if_neg hg,if_neg hg,if_neg hg]
  clear hg h1 hd cZ
  go_enter Tryz.func67,Tryz.ntmps67
  go_wp2_with fail
  generalize hW0:World.alloc _ _=W0
  have HB0:Hid (Below w.heap.size w W0):=by show Below _ _ _;rw [← hW0];go_grown
  have XR:Hid (Cel W0 w.heap.size (.slice none 0 0) (.slice none 0 0)):=celW hW0 (by simp [go_sem])
  clear hW0
  refine (cA W0 HB0.out).mono ?_
  rintro e w1 ⟨rfl,rfl⟩
  clear cA
  have xr:=XR.out
  have BF:=below_cell HB0.out w.heap.size (Nat.le_refl _) (.slice none 0 0) (.slice none 0 0)
  have cf:=xr.set (.slice none 0 0) (.slice none 0 0)
  obtain ⟨r0,r1,r2,r3⟩:=xr
  obtain ⟨y0,y1,_,_⟩:=cf
  go_wp2
  exact bodyPost_ret (v:=.tuple #[.agg #[.slice none 0 0,.slice none 0 0],.int .i64 1]) (by simp [results,Tryz.results67,go_sem,y0,y1]) rfl ⟨_,rfl,TRes.none _ _,BF⟩
theorem size_alloc (W:World) (o:Obj):(W.alloc o).heap.size=W.heap.size+1:=Array.size_push _
end Go.Proofs.YtjlofobnmjompaaGreatDoor.Wd
