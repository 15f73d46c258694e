/- Tensors: what matm.Flip and matm.sideLast hand back. · Tensors: what slices.Repeat of one number, and tens.New, hand back. Tensors: what the reference's New hands back. -/
import Derived.Test.YtpdkkcnmgiihcaaGreatDoorP07
import Derived.Test.YtpdkkcnmgiihcaaGreatDoorP08
import Derived.Test.YtpdkkcnmgiihcaaGreatDoorP02
import Derived.Laws.CopyOwn
import Derived.Deep.RegionLaw
set_option linter.unusedVariables false
set_option linter.unusedSimpArgs false
set_option maxHeartbeats 16000000
set_option maxRecDepth 16000
namespace Go.Proofs.YtpdkkcnmgiihcaaGreatDoor.Wd
open Go.RowKit Fx
/-- A tensor of two sides. -/
theorem is_two {D0 D1:Nat} {x:List Int} (hx:x.length=D0*D1) (h0:1≤D0) (h1:1≤D1) (hl:D0*D1≤4096):isP [(D0:Int),(D1:Int)] x:=by
 have e:prodN [D0,D1]=D0*D1:=by simp [prodN]
 have en:ntl [(D0:Int),(D1:Int)] = [D0,D1]:=ntl_itl [D0,D1]
 unfold isP
 rw [en]
 refine ⟨⟨by simp,fun y hy=>?_,by rw [e];exact hl⟩,by rw [e];exact hx⟩
 simp at hy
 omega
def flE (d x:List Int):Int:=if isP d x then if d.length=2 then 0 else 4 else 1
def flD (d x:List Int):List Int:=if isP d x∧d.length=2 then [d.getD 1 0,d.getD 0 0] else []
def flV (d x:List Int):List Int:=if isP d x∧d.length=2 then flipV (d.getD 0 0).toNat (d.getD 1 0).toNat x else []
end Go.Proofs.YtpdkkcnmgiihcaaGreatDoor.Wd
namespace Go.Proofs.YtpdkkcnmgiihcaaGreatDoor.Wd
open Go.RowKit
theorem OwnK.heap {k:IntKind} {e:TypeId} {W:World} {B g n:Nat} {l:List Int} (h:OwnK k e W B (.slice (some ⟨g,0,none⟩) n n) l) (hn:l.length=n):W.heap[g]?=some (.cells (vals k l).toArray e (0,0))∧B≤g:=by
 subst hn
 rcases h.2 with ⟨h1,_⟩|⟨q,cap,cur,h1,h2,h3,h4,h5,h6,h7⟩
 ·cases h1
 ·cases h1
  have e1:cur=(vals k l).toArray:=by
   rw [Nat.mul_one] at h6 h7
   rw [← h7,List.take_of_length_le (by simp;omega)]
  rw [e1] at h3
  exact ⟨h3,h2⟩
theorem OwnK.of_heap {k:IntKind} {e:TypeId} {W:World} {B g n:Nat} {l:List Int} (h:W.heap[g]?=some (.cells (vals k l).toArray e (0,0))) (hB:B≤g) (hn:l.length=n) (hm:n≤1073741824):OwnK k e W B (.slice (some ⟨g,0,none⟩) n n) l:=by
 subst hn
 refine ⟨by simp [vals],.inr ⟨g,l.length,(vals k l).toArray,rfl,hB,h,Nat.le_refl _,by unfold maxLen;omega,by simp [vals],by rw [Nat.mul_one,List.take_of_length_le (by simp [vals])]⟩⟩
/-- k times X, and noughts. -/
def rep (X:Int) (N k:Nat):List Int:=List.replicate k X++List.replicate (N - k) 0
theorem rep_len (X:Int) (N k:Nat) (h:k≤N):(rep X N k).length=N:=by simp [rep];omega
theorem rep_splice (X:Int) (N k m:Nat) (h:k+m≤N):splice (vals .i64 (rep X N k)) k (vals .i64 (List.replicate m X))=vals .i64 (rep X N (k+m)):=by
 unfold splice vals
 rw [← List.map_take,← List.map_drop,← List.map_append,← List.map_append]
 congr 1
 unfold rep
 rw [List.length_map,List.length_replicate,List.take_append_of_le_length (by simp),List.take_of_length_le (by simp),List.drop_append,List.drop_of_length_le (by simp),List.drop_replicate,List.nil_append,List.length_replicate,← List.append_assoc,List.replicate_append_replicate]
 congr 2
 omega
theorem rep_full (X:Int) (N:Nat):rep X N N=List.replicate N X:=by simp [rep]
theorem rep_zero (X:Int) (N:Nat):rep X N 0=List.replicate N 0:=by simp [rep]
theorem rep_get (X:Int) (N k j:Nat) (v:Value) (m:Nat) (hm:m≤k) (h:(vals .i64 (List.replicate m X))[j]?=some v):(vals .i64 (rep X N k))[j]?=some v:=by
 unfold vals at *
 rw [List.getElem?_map] at *
 have hj:j < m:=by
  rcases Nat.lt_or_ge j m with h'|h'
  ·exact h'
  ·rw [List.getElem?_eq_none (by simp;exact h')] at h;cases h
 rw [List.getElem?_eq_getElem (by simp;exact hj),List.getElem_replicate] at h
 unfold rep
 rw [List.getElem?_append_left (by simp;omega),List.getElem?_eq_getElem (by simp;omega),List.getElem_replicate]
 exact h
theorem one_src {w w2:World} {p:Option Addr} {c:Nat} {X:Int} (h:Nums .i64 w (.slice p 1 c) [X]) (hB:Below w.heap.size w w2):Hid (∃ ad,p=some ad∧∀ j v,(vals .i64 (List.replicate 1 X))[j]?=some v→w2.cell? (ad.add j)=some v):=by
 rcases h.up hB with ⟨_,h0⟩|⟨ad,c',e1,hc⟩
 ·cases h0
 ·cases e1
  exact ⟨ad,rfl,hc⟩
theorem heap_cell {k:IntKind} {W:World} {g:Nat} {l:List Int} {e:TypeId} (h:W.heap[g]?=some (.cells (vals k l).toArray e (0,0))) (j:Nat) (v:Value) (hj:(vals k l)[j]?=some v):W.cell? ((⟨g,0,none⟩:Addr).add j)=some v:=by
 rw [addr_plus,Nat.zero_add]
 unfold World.cell?
 simp only [h]
 simpa using hj
theorem vals_len (k:IntKind) (l:List Int):(vals k l).length=l.length:=by simp [vals]
theorem repeat_one (p:Option Addr) (c:Nat) (X:Int) (N:Nat) (hN:1≤N∧N≤4096) (w:World) (hv:Nums .i64 w (.slice p 1 c) [X]):
  Calls Tryz.prog 81 #[.slice p 1 c,.int .i64 (N:Int)] w fun e w'=>∃ v',e = .returned v'∧OwnK .i64 33 w' w.heap.size v' (List.replicate N X)∧Below w.heap.size w w':=by
 have cM:Calls Tryz.prog 100 #[.int .u64 1,.int .u64 (N:Int)] w fun e w'=>e = .returned (.tuple #[.int .u64 0,.int .u64 (N:Int)])∧w'=w:=by
  have:=Tryz.bits_Mul 1 N (by decide) (by omega) w
  rw [Nat.one_mul,Nat.div_eq_of_lt (by omega),Nat.mod_eq_of_lt (by omega)] at this
  exact this
 have hN':1≤(N:Int)∧(N:Int)≤4096:=by omega
 have HV:Hid (Nums .i64 w (.slice p 1 c) [X]):=hv
 clear hv
 go_enter Tryz.func81,Tryz.ntmps81
 go_wp2_with fail
 refine cM.mono ?_
 rintro e w1 ⟨rfl,rfl⟩
 clear cM
 go_wp2_with (first
  |(at_make;refine wpList_makeK fixT (by decide) _ rfl (.tmp 29) (.tmp 29) rfl .i64 .i64 N N N rfl rfl rfl rfl (by omega) w1.heap.size w1 (Nat.le_refl _) (Below.refl _ _) ?_;intro w2 HO B0 B1;clear B0;rw [← rep_zero X N] at HO;have HR0:Hid (w2.heap[w1.heap.size]?=some (.cells (vals .i64 (rep X N 0)).toArray 33 (0,0))):=(HO.out.heap (rep_len X N 0 (Nat.zero_le _))).1;have HS:=one_src HV.out B1;clear HO)
  | (have hR:=HR0.out;refine wpList_copy_splice rfl (.tmp 31) (.tmp 32) 29 29 rfl 33 Tryz.underlying29 (by kernel_rfl) _ _ _ _ _ _ rfl rfl w1.heap.size 0 (vals .i64 (rep X N 0)) 33 hR (vals .i64 (List.replicate 1 X)) (by rw [vals_len,List.length_replicate];exact (Nat.min_eq_left hN.1).symm) (fun _=>⟨rfl,HS.out⟩) (by rw [vals_len,vals_len,rep_len X N 0 (by omega),List.length_replicate];omega) (vals_one _ _) w1.heap.size w1 B1 (Nat.le_refl _) ?_;intro w3 H3 B3;rw [rep_splice X N 0 1 (by omega),Nat.zero_add] at H3;clear HR0 HS B1 hR))
 obtain ⟨g,hg⟩:∃ g,w1.heap.size=g:=⟨_,rfl⟩
 have Hg:Hid (w1.heap.size=g):=hg
 rw [hg] at H3 ⊢
 clear hg
 go_loopg [8] (N - 1) (fun gg i wr=>∃ (k:Nat),1≤k∧k≤N∧gg=N - k∧i = .int .i64 (k:Int)∧Hid (wr.heap[g]?=some (.cells (vals .i64 (rep X N k)).toArray 33 (0,0)))∧Hid (Below w1.heap.size w1 wr))
 case atStart=>exact ⟨1,by omega,by omega,by omega,by first|rfl|simp,H3,B3⟩
 case round=>
  obtain ⟨k,hk1,hk,hgg,rfl,HR,hB⟩:=hrel
  by_cases hkn:k < N
  ·have hk':(k:Int) < (N:Int):=by omega
   have hk0:0≤(k:Int):=by omega
   obtain ⟨m,em⟩:∃ m,min k (N - k)=m:=⟨_,rfl⟩
   have hm:1≤m∧k+m≤N∧m≤k:=by omega
   have HM:Hid (min k (N - k)=m):=em
   have hNk:¬ (N=k):=by omega
   have HB1:Hid (Below w1.heap.size w1 wr.drew):=hB.out.trans ⟨rfl,rfl,rfl,Nat.le_refl _,fun _ _=>rfl⟩
   have HC:Hid (∀ j v,(vals .i64 (List.replicate m X))[j]?=some v→wr.drew.cell? ((⟨g,0,none⟩:Addr).add j)=some v):=fun j v hj=>heap_cell (W:=wr.drew) HR.out j v (rep_get X N k j v m (by omega) hj)
   clear em
   go_wp2_with fail
   go_region_law (refine step_copy_splice rfl (.tmp 41) (.tmp 44) 29 29 rfl 33 Tryz.underlying29 (by kernel_rfl) (some ⟨g,k,none⟩) (some ⟨g,0,none⟩) (N - k) (N - k) k N (by simp [Act.eval,Act.put,hNk]) (by simp [Act.eval,Act.put]) g k (vals .i64 (rep X N k)) 33 HR.out (vals .i64 (List.replicate m X)) (by rw [vals_len,List.length_replicate];exact HM.out.symm) (fun _=>⟨rfl,⟨g,0,none⟩,rfl,HC.out⟩) (by rw [vals_len,vals_len,rep_len X N k (by omega),List.length_replicate];omega) (vals_one _ _) w1.heap.size w1 HB1.out (Nat.le_of_eq Hg.out) ?_;intro w4 H4 B4;rw [rep_splice X N k m (by omega)] at H4;rw [show (vals .i64 (List.replicate m X)).length=m by rw [vals_len,List.length_replicate]])
   all_goals
    go_wp2
    go_roundg (N - (k+m))
   case measure=>omega
   case rel=>exact ⟨k+m,by omega,by omega,rfl,by simp [goInt];rw [IntKind.wrap_i64];omega,H4,B4⟩
  ·obtain rfl:k=N:=by omega
   have HF:Hid (OwnK .i64 33 wr w1.heap.size (.slice (some ⟨g,0,none⟩) k k) (List.replicate k X)∧Below w1.heap.size w1 wr):=by
    refine ⟨?_,hB.out⟩
    have:=HR.out
    rw [rep_full] at this
    exact OwnK.of_heap this (Nat.le_of_eq Hg.out) (by simp) (by omega)
   go_wp2
   go_ret
   exact ⟨_,rfl,HF.out⟩
def newE (d:List Int):Int:=if goodN (ntl d) then 0 else 1
def newD (d:List Int):List Int:=if goodN (ntl d) then d else []
def newV (d:List Int) (X:Int):List Int:=if goodN (ntl d) then List.replicate (prodN (ntl d)) X else []
theorem tnew_any (v:Value) (d:List Int) (hd:RI d) (X:Int) (w:World) (h1:Nums .i64 w v d):
  Calls Tryz.prog 51 #[v,.int .i64 X] w fun e w'=>∃ v',e = .returned (.tuple #[v',.int .i64 (newE d)])∧TRes w' w.heap.size v' (newD d) (newV d X)∧Below w.heap.size w w':=by
 have cA:=fun W (hW:Below w.heap.size w W)=>good_any _ d hd W (h1.up hW)
 have cZ:=fun W (hW:Below w.heap.size w W)=>size_any _ d hd W (h1.up hW)
 unfold newE newD newV
 by_cases hg:goodN (ntl d)
 ·rw [decide_eq_true hg] at cA
  rw [sizeN_good hg] at cZ
  rw [if_pos hg,if_pos hg,if_pos hg]
  have cC:=fun W (hW:Below w.heap.size w W)=>cloneI_any _ d (by have:=hg.1;rw [ntl_len] at this;omega) W (h1.up hW)
  have hN:1≤prodN (ntl d)∧prodN (ntl d)≤4096:=⟨hg.pos,hg.2.2⟩
  obtain ⟨N,eN⟩:∃ N,prodN (ntl d)=N:=⟨_,rfl⟩
  rw [eN] at cZ hN ⊢
  clear eN hg h1 hd
  go_enter Tryz.func51,Tryz.ntmps51
  go_wp2_with fail
  generalize hW0:World.alloc _ _=W0
  have HB0:Hid (Below w.heap.size w W0):=by show Below _ _ _;rw [← hW0];go_grown
  have XR:Hid (Cel W0 w.heap.size (.slice none 0 0) (.slice none 0 0)):=celW hW0 (by simp [go_sem])
  clear hW0
  refine (cA W0 HB0.out).mono ?_
  rintro e w1 ⟨rfl,rfl⟩
  clear cA
  go_wp2_with fail
  refine (cC w1 HB0.out).mono ?_
  rintro e w2 ⟨v2,rfl,h2,hB2⟩
  have H2:Hid (OwnK .i64 3 w2 w1.heap.size v2 d∧Below w1.heap.size w1 w2):=⟨h2,hB2⟩
  obtain ⟨p2,n2,c2,rfl,_⟩:=h2.nums.lst
  clear cC h2 hB2
  go_wp2_with fail
  generalize hW3:World.alloc _ _=W3
  have HB3:Hid (Below w2.heap.size w2 W3):=by show Below _ _ _;rw [← hW3];go_grown
  have HX:Hid (Nums .i64 W3 (.slice (some ⟨w2.heap.size,0,none⟩) 1 1) [X]):=by rw [← hW3];exact nums_lit (k:=.i64) w2 [X] 1 (0,0) rfl
  have HB4:Hid (Below w1.heap.size w1 W3∧Below w.heap.size w W3):=⟨bstep H2.out.2 HB3.out,bstep HB0.out (bstep H2.out.2 HB3.out)⟩
  clear hW3
  refine (cZ W3 HB4.out.2).mono ?_
  rintro e w4 ⟨rfl,rfl⟩
  clear cZ
  have cR:=repeat_one _ 1 X N hN w4 HX.out
  go_wp2_with fail
  refine cR.mono ?_
  rintro e w5 ⟨v5,rfl,h5,hB5⟩
  obtain ⟨p5,n5,c5,rfl,_⟩:=h5.nums.lst
  have hBs:=bstep HB4.out.1 hB5
  have HF:Hid (TRes (set2 w5 w.heap.size (.slice p2 n2 c2) (.slice p5 n5 c5)) w.heap.size (.agg #[.slice p2 n2 c2,.slice p5 n5 c5]) d (List.replicate N X)∧Below w.heap.size w (set2 w5 w.heap.size (.slice p2 n2 c2) (.slice p5 n5 c5))):=by
   refine ⟨(TRes.set (H2.out.1.up (bstep HB3.out hB5)) (h5.low HB4.out.1.size) (cell_lt XR.out.1)).low HB0.out.size,below_cell (bstep HB0.out hBs) _ (Nat.le_refl _) _ _⟩
  have xr:=XR.out.up hBs
  have cf:=xr.set (.slice p2 n2 c2) (.slice p5 n5 c5)
  obtain ⟨r0,r1,r2,r3⟩:=xr
  obtain ⟨y0,y1,_,_⟩:=cf
  clear cR h5 hB5 hBs
  go_wp2
  exact bodyPost_ret (v:=.tuple #[.agg #[.slice p2 n2 c2,.slice p5 n5 c5],.int .i64 0]) (by simp [results,Tryz.results51,go_sem,y0,y1]) rfl ⟨_,rfl,HF.out⟩
 ·rw [decide_eq_false hg] at cA
  rw [if_neg hg,if_neg hg,if_neg hg]
  clear hg h1 hd cZ
  go_enter Tryz.func51,Tryz.ntmps51
  go_wp2_with fail
  generalize hW0:World.alloc _ _=W0
  have HB0:Hid (Below w.heap.size w W0):=by show Below _ _ _;rw [← hW0];go_grown
  have XR:Hid (Cel W0 w.heap.size (.slice none 0 0) (.slice none 0 0)):=celW hW0 (by simp [go_sem])
  clear hW0
  refine (cA W0 HB0.out).mono ?_
  rintro e w1 ⟨rfl,rfl⟩
  clear cA
  have xr:=XR.out
  have BF:=below_cell HB0.out w.heap.size (Nat.le_refl _) (.slice none 0 0) (.slice none 0 0)
  have cf:=xr.set (.slice none 0 0) (.slice none 0 0)
  obtain ⟨r0,r1,r2,r3⟩:=xr
  obtain ⟨y0,y1,_,_⟩:=cf
  go_wp2
  exact bodyPost_ret (v:=.tuple #[.agg #[.slice none 0 0,.slice none 0 0],.int .i64 1]) (by simp [results,Tryz.results51,go_sem,y0,y1]) rfl ⟨_,rfl,TRes.none _ _,BF⟩
theorem OwnK.base {k:IntKind} {e:TypeId} {W:World} {B g n c:Nat} {l:List Int} (h:OwnK k e W B (.slice (some ⟨g,0,none⟩) n c) l):OwnK k e W g (.slice (some ⟨g,0,none⟩) n c) l:=by
 refine ⟨h.1,?_⟩
 rcases h.2 with ⟨h1,_⟩|⟨q,cap,cur,h1,h2,h3⟩
 ·cases h1
 ·have hq:g=q:=by
   injection h1 with a1 _ _
   injection a1 with a2
   injection a2
  subst hq
  exact .inr ⟨g,cap,cur,h1,Nat.le_refl _,h3⟩
/-- A tensor in memory of its own; the one list apart from the other. -/
def TNew (W:World) (B:Nat) (v:Value) (D:List Int) (N:Nat) (X:List Int):Prop:=∃ s g c,v = .agg #[s,.slice (some ⟨g,0,none⟩) N c]∧OwnK .i64 3 W B s D∧OwnK .i64 33 W B (.slice (some ⟨g,0,none⟩) N c) X∧Off g s∧B≤g
theorem TNew.res {W:World} {B:Nat} {v:Value} {D:List Int} {N:Nat} {X:List Int} (h:TNew W B v D N X):TRes W B v D X:=by
 obtain ⟨s,g,c,e,h1,h2,_⟩:=h
 exact ⟨s,_,e,h1,h2⟩
theorem size_alloc (W:World) (o:Obj):(W.alloc o).heap.size=W.heap.size+1:=Array.size_push _
theorem own_lit2 {k:IntKind} {e:TypeId} (W:World) (o:Obj):OwnK k e ((W.alloc o).alloc (.cells #[] e)) (W.heap.size+1) (.slice (some ⟨W.heap.size+1,0,none⟩) 0 0) []:=by
 have:=own_lit (k:=k) (e:=e) (W.alloc o) [] 0 rfl (by decide)
 rw [size_alloc] at this
 exact this
theorem rnew_any (v:Value) (d:List Int) (hd:RI d) (hg:goodN (ntl d)) (X:Int) (w:World) (h1:Nums .i64 w v d):
  Calls Tryz.prog 23 #[v,.int .i64 X] w fun e w'=>∃ v',e = .returned v'∧TNew w' w.heap.size v' d (prodN (ntl d)) (List.replicate (prodN (ntl d)) X)∧Below w.heap.size w w':=by
 have cZ:=fun W (hW:Below w.heap.size w W)=>rsize_any _ d hd W (h1.up hW)
 rw [sizeN_good hg] at cZ
 have hN:1≤prodN (ntl d)∧prodN (ntl d)≤4096:=⟨hg.pos,hg.2.2⟩
 have hl:d.length≤4:=by rw [← ntl_len];exact hg.1
 obtain ⟨N,eN⟩:∃ N,prodN (ntl d)=N:=⟨_,rfl⟩
 rw [eN] at cZ hN ⊢
 have hN':1≤(N:Int)∧(N:Int)≤4096:=by omega
 have HV:Hid (Nums .i64 w v d∧d.length≤4):=⟨h1,hl⟩
 obtain ⟨p,n,c,rfl,_⟩:=h1.lst
 have H5:Hid (OwnK .i64 3 ((w.alloc (.cells #[.slice none 0 0,.slice none 0 0] 31)).alloc (.cells #[] 3)) (w.heap.size+1) (.slice (some ⟨w.heap.size+1,0,none⟩) 0 0) []):=own_lit2 w _
 have H8:Hid (Below (w.heap.size+1) ((w.alloc (.cells #[.slice none 0 0,.slice none 0 0] 31))) ((w.alloc (.cells #[.slice none 0 0,.slice none 0 0] 31)).alloc (.cells #[] 3))):=by
  have:=up_alloc (w.alloc (.cells #[.slice none 0 0,.slice none 0 0] 31)) (.cells #[] 3)
  rw [size_alloc] at this
  exact this
 have H6:Hid (Nums .i64 ((w.alloc (.cells #[.slice none 0 0,.slice none 0 0] 31)).alloc (.cells #[] 3)) (.slice p n c) d):=HV.out.1.up (blit (up_alloc w _) _)
 have H7:Hid (([]:List Int).length+d.length≤1073741824):=by show _≤_;have:=HV.out.2;simp;omega
 obtain ⟨V,eV⟩:∃ V,List.replicate N X=V:=⟨_,rfl⟩
 have HV5:Hid (List.replicate N X=V∧V.length=N):=⟨eV,by rw [← eV];simp⟩
 rw [eV]
 clear eN hg h1 hd hl eV
 go_enter Tryz.func23,Tryz.ntmps23
 go_wp2_with (at_builtin;go_loud (refine wpList_appendK numT (by decide) rfl (.tmp 7) (.tmp 8) rfl (w.heap.size+1) _ [] rfl H5.out _ d rfl H6.out H7.out (by simp) _ H8.out ?_;intro v1 w1 H1 B1;obtain ⟨p1,n1,c1,rfl,HL1⟩:=H1.out.nums.lst))
 have B1':Below (w.alloc (.cells #[.slice none 0 0,.slice none 0 0] 31)).heap.size (w.alloc (.cells #[.slice none 0 0,.slice none 0 0] 31)) w1:=by rw [size_alloc];exact B1
 have XR1:Hid (Cel w1 w.heap.size (.slice none 0 0) (.slice none 0 0)):=by
  refine Cel.up (W:=w.alloc (.cells #[.slice none 0 0,.slice none 0 0] 31)) ?_ B1'
  unfold Cel
  simp [go_sem]
 have HB1:Hid (Below w.heap.size w w1):=bstep (up_alloc w _) B1'
 have HO1:Hid (OwnK .i64 3 w1 (w.heap.size+1) (.slice p1 n1 c1) d):=H1.out
 clear H5 H6 H7 H8 B1 B1' H1 HL1
 refine (cZ w1 HB1.out).mono ?_
 rintro e w2 ⟨rfl,rfl⟩
 clear cZ
 go_wp2_with (at_make;refine wpList_makeK fixT (by decide) _ rfl (.tmp 11) (.tmp 11) rfl .i64 .i64 N N N rfl rfl rfl rfl (by omega) w.heap.size w HB1.out.size HB1.out ?_;intro w3 HO3 B3 B3';clear B3')
 obtain ⟨g,hg⟩:∃ g,w2.heap.size=g:=⟨_,rfl⟩
 generalize hW4:World.alloc _ _=W4
 obtain ⟨b5,hb5⟩:∃ b5,w3.heap.size=b5:=⟨_,rfl⟩
 have B4:Below w3.heap.size w3 W4:=by rw [← hW4];exact up_alloc w3 _
 have XT:Hid (Cel W4 b5 (.slice p1 n1 c1) (.slice (some ⟨g,0,none⟩) N N)):=by
  show Cel _ _ _ _
  unfold Cel
  rw [← hW4,hg,← hb5]
  simp [go_sem]
 have HB4:Hid (Below w.heap.size w W4):=bstep HB1.out (bstep B3 B4)
 have XR4:Hid (Cel W4 w.heap.size (.slice none 0 0) (.slice none 0 0)):=XR1.out.up (bstep B3 B4)
 have HD4:Hid (OwnK .i64 3 W4 (w.heap.size+1) (.slice p1 n1 c1) d):=HO1.out.up (bstep B3 B4)
 have HO4:Hid (OwnK .i64 33 W4 g (.slice (some ⟨g,0,none⟩) N N) (rowF V 0)):=by
  show OwnK _ _ _ _ _ _
  rw [rowF_zero,HV5.out.2,← hg]
  exact HO3.out.up B4
 have hgl:=HO3.out.size
 have hx:=cell_lt XR1.out.1
 have Hg:Hid (w.heap.size < g∧g < b5∧w2.heap.size=g):=⟨by omega,by omega,hg⟩
 rw [hg,hb5]
 clear hW4 B4 B3 HO3 hg hb5 hgl hx
 go_loopg [6] N (fun gg i wr=>∃ (k:Nat),k≤N∧gg=N - k∧i = .int .i64 (k:Int)∧Hid (OwnK .i64 33 wr g (.slice (some ⟨g,0,none⟩) N N) (rowF V k))∧Hid (Below w.heap.size w wr∧Stay g W4 wr))
 case atStart=>exact ⟨0,by omega,by omega,by first|rfl|simp,HO4,HB4.out,Stay.refl _ _⟩
 case round=>
  obtain ⟨k,hk,hgg,rfl,HRk,hBS⟩:=hrel
  obtain ⟨R1,hR1⟩:∃ R1:World,R1=wr:=⟨_,rfl⟩
  subst hR1
  have hnb:b5≠g:=by have:=Hg.out;omega
  obtain ⟨t0,t1,_,_⟩:=XT.out.stay hBS.out.2 hnb
  by_cases hkn:k < N
  ·have hk':(k:Int) < (N:Int):=by omega
   have HZ:Hid (V.getD k 0=X):=by
    show _=_
    rw [← HV5.out.1,getD_lt _ k 0 (by simp;exact hkn),List.getElem_replicate]
   obtain ⟨hown,hfz⟩:=HRk.out.cell (by rw [rowF_len];exact HV5.out.2) k hkn
   have H5:Hid (OwnK .i64 33 (R1.setCell ⟨g,k,none⟩ (.int .i64 X)) g (.slice (some ⟨g,0,none⟩) N N) (rowF V (k+1))):=by
    have:=HRk.out.store (by rw [rowF_len];exact HV5.out.2) k X
    have e2:=rowF_set V k (by rw [HV5.out.2];exact hkn)
    rw [HZ.out] at e2
    rw [e2] at this
    exact this
   have hgw:w.heap.size≤g:=by have:=Hg.out;omega
   have H6:Hid (Below w.heap.size w (R1.setCell ⟨g,k,none⟩ (.int .i64 X))∧Stay g W4 (R1.setCell ⟨g,k,none⟩ (.int .i64 X))):=⟨hBS.out.1.setCell (p:=⟨g,k,none⟩) hgw _,hBS.out.2.set _ _⟩
   clear hgw hnb
   go_wp2
   go_roundg (N - (k+1))
   case measure=>omega
   case rel=>exact ⟨k+1,by omega,rfl,by first|rfl|simp,H5,H6⟩
  ·obtain rfl:k=N:=by omega
   have hne1:w.heap.size≠g:=by have:=Hg.out;omega
   have hfin:=HRk.out
   rw [← HV5.out.2,rowF_full,HV5.out.2] at hfin
   have hfd:=HD4.out.stay hBS.out.2 (HO1.out.off_new (by rw [Hg.out.2.2];exact Nat.le_refl _))
   have HF:Hid (TNew (set2 R1 w.heap.size (.slice p1 n1 c1) (.slice (some ⟨g,0,none⟩) k k)) w.heap.size (.agg #[.slice p1 n1 c1,.slice (some ⟨g,0,none⟩) k k]) d k V∧Below w.heap.size w (set2 R1 w.heap.size (.slice p1 n1 c1) (.slice (some ⟨g,0,none⟩) k k))):=
    ⟨⟨_,g,k,rfl,(hfd.stay (Stay.set2 R1 _ _) (hfd.off (by omega))).low (by omega),(hfin.stay (Stay.set2 R1 _ _) (hfin.off Hg.out.1)).low (by have:=Hg.out;omega),HO1.out.off_new (by rw [Hg.out.2.2];exact Nat.le_refl _),by have:=Hg.out;omega⟩,below_cell hBS.out.1 _ (Nat.le_refl _) _ _⟩
   have xr:=XR4.out.stay hBS.out.2 hne1
   have cf:=xr.set (.slice p1 n1 c1) (.slice (some ⟨g,0,none⟩) k k)
   obtain ⟨r0,r1,r2,r3⟩:=xr
   obtain ⟨y0,y1,_,_⟩:=cf
   clear hfin hfd hne1 hnb
   go_wp2
   exact bodyPost_ret (v:=.agg #[.slice p1 n1 c1,.slice (some ⟨g,0,none⟩) k k]) (by simp [results,Tryz.results23,go_sem,y0,y1]) rfl ⟨_,rfl,HF.out⟩
end Go.Proofs.YtpdkkcnmgiihcaaGreatDoor.Wd
