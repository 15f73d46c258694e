/- The code's written and Text. · What the law's awake asks: "in 2 dense 1", reckoned. · ModelSkips' tape: a skip about a bend, reckoned. · The law's awake: it tells true. · The listed tables, as the walks ask for them: the kinds of layers, the powers of ten. -/
import Derived.Test.YtiampagapgjedaaGreatDoorP28
import Derived.Lib.SmallJoins
import Derived.Lib.AppendIntMem
import Derived.Test.YtiampagapgjedaaGreatDoorRows
import Derived.Lib.LaidTab
set_option linter.unusedVariables false
set_option linter.unusedSimpArgs false
set_option maxHeartbeats 16000000
set_option maxRecDepth 16000
namespace Go.Proofs.YtiampagapgjedaaGreatDoor.Wd
open Go.RowKit
/-- The table of powers, as its variable holds it. -/
def Pz (w : World) : Prop := Lib.TabIs Tryz.prog w "internal/strconv.uint64pow10" .u64 Lib.pow10Tab
theorem Hid.up_pz {w w1:World} (h:Hid (Pz w)) (hb:Below w.heap.size w w1):Hid (Pz w1):=Joins.tab_stays (g:=1) (by kernel_rfl) h.out hb (Nat.le_refl _)
theorem itoa_any (x:Int) (hx:0≤x∧x≤9999) (w:World) (hP:Hid (Pz w)):Calls Tryz.prog 72 #[.int .i64 x] w fun e w'=>e = .returned (.string (dgB x))∧Below w.heap.size w w':=by
 refine (Tryz.strconv_Itoa x (by omega) (by omega) w hP.out).mono ?_
 rintro e w' ⟨rfl,k,os,rfl⟩
 refine ⟨?_,Lib.below_grow _ _ (Nat.le_refl _) _ _⟩
 unfold dgB Lib.itoa
 rw [if_neg (by omega)]
/-- A slice of words of the call's own. -/
def StO (W:World) (B:Nat) (v:Value) (ws:List ByteArray):Prop:=W.ownsRow B 9 1 v ws.length (ws.map Value.string)
theorem strT:GT Tryz.prog 83 9 1 16:=⟨Tryz.underlying83,by kernel_rfl⟩
theorem StO.up {W W':World} {B:Nat} {v:Value} {ws:List ByteArray} (h:StO W B v ws) (hB:Below W.heap.size W W'):StO W' B v ws:=owns_only (S:=[]) h (Only.of hB) (by simp)
theorem StO.form {W:World} {B:Nat} {v:Value} {ws:List ByteArray} (h:StO W B v ws):∃ p n c,v = .slice p n c∧ws.length=n:=by
 rcases h.2 with ⟨rfl,h0⟩|⟨g,cap,cur,rfl,_⟩
 ·exact ⟨_,_,_,rfl,h0⟩
 ·exact ⟨_,_,_,rfl,rfl⟩
theorem st_app {W:World} {B:Nat} {v:Value} {ws:List ByteArray} (h:StO W B v ws) (hB:B≤W.heap.size) (x:ByteArray):Hid ((W.alloc (.cells #[.string x] 9)).ownsRow B 9 1 v ws.length (ws.map Value.string))∧Hid ((W.alloc (.cells #[.string x] 9)).heap[W.heap.size]?=some (.cells [Value.string x].toArray 9 (0,0)))∧Hid (∀ y∈[Value.string x],y.oneCell'=true)∧Hid (B≤(W.alloc (.cells #[.string x] 9)).heap.size):=
 ⟨h.up (up_alloc W _),Array.getElem?_push_size,fun y hy=>by simp at hy;subst hy;rfl,by show _≤_;simp;omega⟩
/-- What stands behind such an append, of a box beside it too. -/
theorem st_push {w W w0:World} {B b:Nat} {v0 v1 v2:Value} {ws:List ByteArray} {x:ByteArray} {t:TypeId} (ht:t≠9) (hBW:Below B w W) (hsz:B≤W.heap.size) (hb:W.heap[b]?=some (.cells #[v1,v2] t (0,0))) (h:w0.ownsRow B 9 1 v0 (ws.length+1) (ws.map Value.string++[.string x])) (ho:Only [9] (W.alloc (.cells #[.string x] 9)) w0) (hBl:∀ w',Below B w' (W.alloc (.cells #[.string x] 9))→Below B w' w0):StO w0 B v0 (ws++[x])∧Below B w w0∧w0.heap[b]?=some (.cells #[v1,v2] t (0,0)):=by
 refine ⟨?_,hBl w (hBW.alloc hsz _),?_⟩
 ·unfold StO
  rw [List.length_append,List.map_append]
  exact h
 ·exact ho.keep (((up_alloc W _).block _ (heap_lt hb)).trans hb) (by simpa using ht)
def lyN (l:Ly) (k:Nat):List ByteArray:=(if 0 < k∧0 < kCnt (kindI l.1) then [dgB l.2.1] else [])++(if 1 < k∧1 < kCnt (kindI l.1) then [dgB l.2.2] else [])
theorem lyN_two (l:Ly) (h:kindI l.1 < 5):lyW l=l.1 :: lyN l 2:=by
 unfold lyW lyN kCnt
 rcases (show kindI l.1=0∨kindI l.1=1∨kindI l.1=2∨kindI l.1=3∨kindI l.1=4 by omega) with e|e|e|e|e <;> rw [e] <;> simp
theorem lyN_succ (l:Ly) (k:Nat) (hk:k < 2):lyN l (k+1)=lyN l k++(if k < kCnt (kindI l.1) then [dgB (if k=0 then l.2.1 else l.2.2)] else []):=by
 unfold lyN
 rcases (show k=0∨k=1 by omega) with rfl|rfl
 ·simp
 ·by_cases h0:0 < kCnt (kindI l.1)
  ·simp [h0]
  ·have h1:¬ 1 < kCnt (kindI l.1):=by omega
   simp [h0,h1]
theorem lyN_len (l:Ly) (k:Nat):(lyN l k).length≤2:=by
 unfold lyN
 split <;> split <;> simp
theorem in_at {d:List Int} (h:InOk d) (k:Nat) (hk:k < d.length):1≤d.getD k 0∧d.getD k 0≤1024:=by
 rcases h with ⟨x,rfl,h⟩|⟨x,y,rfl,hx,hy⟩
 ·obtain rfl:k=0:=by simp at hk;omega
  exact h
 ·rcases (show k=0∨k=1 by simp at hk;omega) with rfl|rfl
  ·simp;omega
  ·simp;omega
theorem wdsL_len:∀ ls:List Ly,(ls.flatMap lyW).length≤3*ls.length
 | []=>by simp
 | l :: ls=>by
  have:=wdsL_len ls
  have h2:(lyW l).length≤3:=by unfold lyW;split <;> (try split) <;> simp
  rw [List.flatMap_cons,List.length_append,List.length_cons]
  omega
theorem take_flat (ls:List Ly) (k:Nat) (hk:k < ls.length):(ls.take (k+1)).flatMap lyW=(ls.take k).flatMap lyW++lyW (lyA ls k):=by
 rw [List.take_add_one,List.getElem?_eq_getElem hk,List.flatMap_append]
 unfold lyA
 rw [List.getD_eq_getElem?_getD,List.getElem?_eq_getElem hk]
 simp
theorem take_map (d:List Int) (k:Nat) (hk:k < d.length):(d.take (k+1)).map dgB=(d.take k).map dgB++[dgB (d.getD k 0)]:=by
 rw [List.take_add_one,List.getElem?_eq_getElem hk,List.map_append,List.getD_eq_getElem?_getD,List.getElem?_eq_getElem hk]
 rfl
theorem join_len (K:Nat):∀ (l:List (List UInt8)),(∀ u∈l,u.length≤K)→(Lib.join l [32]).length≤(K+1)*l.length
 | [],_=>by simp [Lib.join]
 | [u],h=>by
  have:=h u (by simp)
  simp [Lib.join]
  omega
 | u :: v :: r,h=>by
  have h1:=h u (by simp)
  have h2:=join_len K (v :: r) fun x hx=>h x (by simp at hx ⊢;right;exact hx)
  have e:Lib.join (u :: v :: r) [32]=u++32 :: Lib.join (v :: r) [32]:=by simp [Lib.join,List.intercalate]
  rw [e,List.length_append,List.length_cons,List.length_cons (a:=u),Nat.mul_succ]
  omega
theorem nDigits_le (u:Nat):Lib.nDigits u≤u+1:=by
 induction u using Nat.strongRecOn with
 | _ u ih=>
  unfold Lib.nDigits
  split
  ·omega
  ·have:=ih (u / 10) (by omega)
   omega
theorem dg_len {x:Int} (h:0≤x∧x≤9999):(dgB x).data.toList.length≤10000:=by
 have:=nDigits_le x.toNat
 show (Lib.decDigits x.toNat).toArray.toList.length≤_
 rw [List.toList_toArray,Lib.decDigits_length]
 omega
theorem netW_len {d:List Int} {ls:List Ly} (hd:InOk d) (hl:∀ l∈ls,LayOk l):∀ w∈netW d ls,w.data.toList.length≤10000:=by
 intro w hw
 unfold netW at hw
 simp only [List.mem_cons,List.mem_append,List.mem_map,List.mem_flatMap] at hw
 rcases hw with rfl|⟨x,hx,rfl⟩|⟨l,hl',hw⟩
 ·decide
 ·obtain ⟨k,hk,rfl⟩:=List.getElem_of_mem hx
  have:=in_at hd k hk
  rw [List.getD_eq_getElem?_getD,List.getElem?_eq_getElem hk] at this
  simp only [Option.getD_some] at this
  exact dg_len (by omega)
 ·have hlo:=hl l hl'
  rw [lyN_two l hlo.1] at hw
  simp only [List.mem_cons] at hw
  rcases hw with rfl|hw
  ·rcases layOk_cases hlo with ⟨e,_⟩|⟨e,_⟩|⟨e,_⟩|⟨e,_⟩|⟨e,_⟩ <;> rw [e] <;> decide
  ·unfold lyN at hw
   rcases layOk_cases hlo with ⟨-,e,h1,h2⟩|⟨-,e,h1,h2⟩|⟨-,e,h1,h2⟩|⟨-,e,h1,h2⟩|⟨-,e,h1,h2⟩ <;> rw [e] at hw <;> simp [kCnt] at hw
   ·subst hw;exact dg_len (by omega)
   ·rcases hw with rfl|rfl
    ·exact dg_len (by omega)
    ·exact dg_len (by omega)
   ·subst hw;exact dg_len (by omega)
   ·subst hw;exact dg_len (by omega)
theorem written_any (p p2:Option Addr) (n c n2 c2:Nat) (d:List Int) (ls:List Ly) (hd:InOk d) (hly:∀ l∈ls,LayOk l) (hls:ls.length≤16) (w:World) (hK:Hid (Kz w)) (hP:Hid (Pz w)) (h1:Nums .i64 w (.slice p n c) d) (hL:LyR 0 w p2 n2 ls):
  Calls Tryz.prog 38 #[.agg #[.slice p n c,.slice p2 n2 c2]] w fun e w'=>e = .returned (.string (joinW (netW d ls)))∧Below w.heap.size w w':=by
 obtain ⟨r,er⟩:∃ r,joinW (netW d ls)=r:=⟨_,rfl⟩
 have HR:Hid (joinW (netW d ls)=r):=er
 rw [er]
 obtain ⟨_,_,_,e,HC⟩:=h1.lst
 cases e
 have hn2:n≤2:=by rw [← HC.out.1];rcases hd with ⟨x,rfl,_⟩|⟨x,y,rfl,_⟩ <;> simp
 have hn16:n2≤16:=by rw [← hL.1];exact hls
 have HG:Hid (InOk d∧(∀ l∈ls,LayOk l)∧LyR 0 w p2 n2 ls):=⟨hd,hly,hL⟩
 clear er h1 hd hly hls hL
 go_enter Tryz.func38,Tryz.ntmps38
 go_wp2_with fail
 generalize hW0:World.alloc _ _=W0
 have HI0:Hid (StO W0 w.heap.size (.slice (some ⟨w.heap.size+1,0,none⟩) 1 1) [kIn]∧Below w.heap.size w W0∧W0.heap[w.heap.size]?=some (.cells #[.slice p n c,.slice p2 n2 c2] 26 (0,0))):=by
  show _∧_∧_
  rw [← hW0]
  refine ⟨⟨rfl,.inr ⟨w.heap.size+1,1,#[.string kIn],rfl,by omega,?_,Nat.le_refl _,by unfold maxLen;omega,rfl,rfl⟩⟩,by go_grown,?_⟩
  ·rw [show w.heap.size+1=(w.alloc (.cells #[.slice p n c,.slice p2 n2 c2] 26)).heap.size by simp]
   exact Array.getElem?_push_size
  ·exact ((up_alloc _ _).block _ (by simp)).trans Array.getElem?_push_size
 clear hW0
 go_loopg [3,16] n (fun gg u v wr=>∃ (k:Nat),k≤n∧gg=n - k∧v = .int .i64 (k:Int)∧Hid (StO wr w.heap.size u (kIn :: (d.take k).map dgB)∧Below w.heap.size w wr∧wr.heap[w.heap.size]?=some (.cells #[.slice p n c,.slice p2 n2 c2] 26 (0,0))))
 case atStart=>exact ⟨0,by omega,by omega,rfl,HI0⟩
 case round=>
  obtain ⟨k,hk,hg,rfl,HI⟩:=hrel
  obtain ⟨pu,nu,cu,rfl,hnu⟩:=HI.out.1.form
  have hnu':nu≤3:=by simp at hnu;omega
  by_cases hkn:k < n
  ·have hk':(k:Int) < (n:Int):=by omega
   have hkl:k < d.length:=by rw [HC.out.1];exact hkn
   obtain ⟨q,o,rfl,c0⟩:=(HC.out.up HI.out.2.1).2 k hkn
   obtain ⟨x,ex⟩:∃ x,d.getD k 0=x:=⟨_,rfl⟩
   have hx:=in_at HG.out.1 k hkl
   rw [ex] at c0 hx
   have ci:=itoa_any x (by omega) wr (Hid.up_pz hP HI.out.2.1)
   have HT:Hid ((d.take (k+1)).map dgB=(d.take k).map dgB++[dgB x]):=by show _=_;rw [← ex];exact take_map d k hkl
   obtain ⟨sx,esx⟩:∃ s,dgB x=s:=⟨_,rfl⟩
   rw [esx] at ci HT
   clear hx ex hkl esx
   go_wp2_with fail
   refine ci.mono ?_
   rintro e w1 ⟨rfl,hB1⟩
   clear ci
   have HI1:Hid (StO w1 w.heap.size (.slice pu nu cu) (kIn :: (d.take k).map dgB)∧Below w.heap.size w w1∧w1.heap[w.heap.size]?=some (.cells #[.slice (some ⟨q,o,none⟩) n c,.slice p2 n2 c2] 26 (0,0))):=⟨HI.out.1.up hB1,bstep HI.out.2.1 hB1,(hB1.block _ (heap_lt HI.out.2.2)).trans HI.out.2.2⟩
   obtain ⟨A1,A2,A3,A4⟩:=st_app HI1.out.1 HI1.out.2.1.size sx
   rw [hnu] at A1
   clear hB1 HI c0
   go_wp2_with (at_builtin;refine wpList_appG strT (by decide) (by decide) rfl (.tmp 20) (.tmp 23) rfl w.heap.size _ _ _ rfl A1.out _ [.string sx] rfl A2.out rfl A3.out (by omega) A4.out ?_;intro v0 w0 H0 O0 B0)
   have HF:Hid (StO w0 w.heap.size v0 (kIn :: (d.take (k+1)).map dgB)∧Below w.heap.size w w0∧w0.heap[w.heap.size]?=some (.cells #[.slice (some ⟨q,o,none⟩) n c,.slice p2 n2 c2] 26 (0,0))):=by
    have:=st_push (by decide) HI1.out.2.1 HI1.out.2.1.size HI1.out.2.2 (by rw [hnu];exact H0.out) O0.out B0.out
    rw [HT.out]
    exact this
   clear A1 A2 A3 A4 H0 O0 B0 HI1
   go_wp2
   go_roundg (n - (k+1))
   case measure=>omega
   case rel=>exact ⟨k+1,by omega,rfl,by first|rfl|simp,HF⟩
  ·obtain rfl:k=n:=by omega
   obtain ⟨D,eD⟩:∃ D,d.map dgB=D:=⟨_,rfl⟩
   have HI1:Hid (StO wr w.heap.size (.slice pu nu cu) (kIn :: D)∧Below w.heap.size w wr∧wr.heap[w.heap.size]?=some (.cells #[.slice p k c,.slice p2 n2 c2] 26 (0,0))):=by
    have:=HI.out
    rw [List.take_of_length_le (by rw [HC.out.1];exact Nat.le_refl _),eD] at this
    exact this
   have HD:Hid (D.length=k∧D=d.map dgB):=⟨by rw [← eD,List.length_map];exact HC.out.1,eD.symm⟩
   obtain ⟨_,⟨g1,_⟩⟩:=box_2 HI1.out.2.2
   clear HI eD hnu
   go_wp2_with fail
   go_loopg [3,29] n2 (fun gg u v wq=>∃ (j:Nat),j≤n2∧gg=n2 - j∧v = .int .i64 (j:Int)∧Hid (StO wq w.heap.size u ((kIn :: D)++(ls.take j).flatMap lyW)∧Below w.heap.size w wq∧wq.heap[w.heap.size]?=some (.cells #[.slice p k c,.slice p2 n2 c2] 26 (0,0))))
   case atStart=>exact ⟨0,by omega,by omega,rfl,by simpa using HI1⟩
   case round=>
    obtain ⟨j,hj,hgj,rfl,HJ⟩:=hrel
    obtain ⟨pw,nw,cw,rfl,hnw⟩:=HJ.out.1.form
    have hnw':nw≤51:=by
     have h1:=wdsL_len (ls.take j)
     have h2:=HD.out.1
     have h3:(ls.take j).length≤j:=by simp;omega
     simp only [List.length_append,List.length_cons] at hnw
     omega
    by_cases hjn:j < n2
    ·have hj':(j:Int) < (n2:Int):=by omega
     have hjl:j < ls.length:=by rw [HG.out.2.2.1];exact hjn
     obtain ⟨q,o,rfl,y0,y1,y2⟩:=(HG.out.2.2.up HJ.out.2.1).2 j hjn
     obtain ⟨l,el⟩:∃ l,lyA ls j=l:=⟨_,rfl⟩
     have hlo:=HG.out.2.1 _ (lyA_mem hjl)
     have HTF:Hid ((ls.take (j+1)).flatMap lyW=(ls.take j).flatMap lyW++lyW l):=by show _=_;rw [← el];exact take_flat ls j hjl
     rw [el] at y0 y1 y2 hlo
     obtain ⟨s,a,b⟩:=l
     simp only [] at y0 y1 y2
     have hlt:=cell_size y0
     have hk5:kindI s < 5:=hlo.1
     have HLW:Hid (lyW (s,a,b)=s :: lyN (s,a,b) 2):=lyN_two (s,a,b) hk5
     have HAB:Hid ((0 < kCnt (kindI s)→0≤a∧a≤9999)∧(1 < kCnt (kindI s)→0≤b∧b≤9999)):=by
      rcases layOk_cases hlo with ⟨-,e,h1,h2⟩|⟨-,e,h1,h2⟩|⟨-,e,h1,h2⟩|⟨-,e,h1,h2⟩|⟨-,e,h1,h2⟩ <;> simp only [] at e h1 h2 <;> exact ⟨fun _=>by omega,fun _=>by omega⟩
     have HKN:Hid (kName (kindI s)=s):=kind_name s hk5
     have ck:Hid (∀ W,Below w.heap.size w W→Calls Tryz.prog 60 #[.string s] W fun e w'=>e = .returned (.tuple #[.agg #[.string s,.int .i64 (kCnt (kindI s)),.int .i64 (kTopA (kindI s)),.int .i64 (kTopB (kindI s))],.bool true])∧Below W.heap.size W w'):=fun W hW=>by
      have:=kindOf_any s W (Hid.up_kz hK hW)
      rw [HKN.out,decide_eq_true hk5] at this
      exact this
     have HNS:Hid (∀ m,m < 2→lyN (s,a,b) (m+1)=lyN (s,a,b) m++(if m < kCnt (kindI s) then [dgB (if m=0 then a else b)] else [])):=fun m hm=>lyN_succ (s,a,b) m hm
     obtain ⟨cn,ecn⟩:∃ cn,kCnt (kindI s)=cn:=⟨_,rfl⟩
     rw [ecn] at ck HAB HNS
     generalize kTopA (kindI s)=tA at ck
     generalize kTopB (kindI s)=tB at ck
     clear hlo hk5 HKN ecn el
     go_wp2_with fail
     generalize hW2:World.alloc _ _=W2
     have hB2:Below wr.heap.size wr W2:=by rw [← hW2];exact up_alloc wr _
     have HB2:Hid (W2.heap[wr.heap.size]?=some (.cells #[.string s,.int .i64 a,.int .i64 b] 73 (0,0))):=by
      show _=_
      rw [← hW2]
      exact Array.getElem?_push_size
     refine (ck.out W2 (bstep HJ.out.2.1 hB2)).mono ?_
     rintro e w3 ⟨rfl,hB3⟩
     have hB23:Below wr.heap.size wr w3:=bstep hB2 hB3
     obtain ⟨W4,eW4⟩:∃ W4,w3.alloc (.cells #[.string s,.int .i64 (cn:Int),.int .i64 tA,.int .i64 tB] 114)=W4:=⟨_,rfl⟩
     have hB4:Below w3.heap.size w3 W4:=by rw [← eW4];exact up_alloc w3 _
     have hB24:=bstep hB23 hB4
     have HI4:Hid (StO W4 w.heap.size (.slice pw nw cw) ((kIn :: D)++(ls.take j).flatMap lyW)∧Below w.heap.size w W4∧W4.heap[w.heap.size]?=some (.cells #[.slice p k c,.slice (some ⟨q,o,none⟩) n2 c2] 26 (0,0))):=⟨HJ.out.1.up hB24,bstep HJ.out.2.1 hB24,(hB24.block _ (heap_lt HJ.out.2.2)).trans HJ.out.2.2⟩
     have HX4:Hid (W4.heap[wr.heap.size]?=some (.cells #[.string s,.int .i64 a,.int .i64 b] 73 (0,0))∧W4.heap[w3.heap.size]?=some (.cells #[.string s,.int .i64 (cn:Int),.int .i64 tA,.int .i64 tB] 114 (0,0))):=⟨((bstep hB3 hB4).block _ (heap_lt HB2.out)).trans HB2.out,by rw [← eW4];exact Array.getElem?_push_size⟩
     obtain ⟨A1,A2,A3,A4⟩:=st_app HI4.out.1 HI4.out.2.1.size s
     rw [hnw] at A1
     have HWK:Hid (∀ w0,Only [9] (W4.alloc (.cells #[.string s] 9)) w0→w0.heap[wr.heap.size]?=some (.cells #[.string s,.int .i64 a,.int .i64 b] 73 (0,0))∧w0.heap[w3.heap.size]?=some (.cells #[.string s,.int .i64 (cn:Int),.int .i64 tA,.int .i64 tB] 114 (0,0))):=fun w0 ho=>⟨ho.keep (((up_alloc W4 _).block _ (heap_lt HX4.out.1)).trans HX4.out.1) (by decide),ho.keep (((up_alloc W4 _).block _ (heap_lt HX4.out.2)).trans HX4.out.2) (by decide)⟩
     have k0:W4.cell? ⟨w3.heap.size,0,none⟩=some (.string s):=(box_4 HX4.out.2).1
     clear hB2 hB3 hB4 hB23 hB24 hW2 HB2 ck HJ y0 y1 y2 HX4
     go_wp2_with (at_builtin;refine wpList_appG strT (by decide) (by decide) rfl (.tmp 39) (.tmp 42) rfl w.heap.size _ _ _ rfl A1.out _ [.string s] rfl A2.out rfl A3.out (by omega) A4.out ?_;intro v0 w0 H0 O0 B0;have hX:=HWK.out w0 O0.out;obtain ⟨_,⟨z1,_⟩,⟨z2,_⟩⟩:=box_3 hX.1)
     have HF:Hid (StO w0 w.heap.size v0 (((kIn :: D)++(ls.take j).flatMap lyW)++[s])∧Below w.heap.size w w0∧w0.heap[w.heap.size]?=some (.cells #[.slice p k c,.slice (some ⟨q,o,none⟩) n2 c2] 26 (0,0))):=st_push (by decide) HI4.out.2.1 HI4.out.2.1.size HI4.out.2.2 (by rw [hnw];exact H0.out) O0.out B0.out
     have HXK:Hid (w0.heap[w3.heap.size]?=some (.cells #[.string s,.int .i64 (cn:Int),.int .i64 tA,.int .i64 tB] 114 (0,0))):=hX.2
     obtain ⟨base,eb⟩:∃ base,((kIn :: D)++(ls.take j).flatMap lyW)++[s]=base:=⟨_,rfl⟩
     have HBL:Hid (base.length≤52∧(kIn :: D)++(ls.take (j+1)).flatMap lyW=base++lyN (s,a,b) 2):=by
      refine ⟨by rw [← eb,List.length_append,hnw];simp;omega,?_⟩
      rw [HTF.out,HLW.out,← eb]
      simp
     rw [eb] at HF
     clear hX z1 z2 A1 A2 A3 A4 H0 O0 B0 HI4 HWK k0 eb eW4 hnw HTF HLW
     go_loopg [3,49] 2 (fun gg u v wr=>∃ (m:Nat),m≤2∧gg=2 - m∧v = .int .i64 (m:Int)∧Hid (StO wr w.heap.size u (base++lyN (s,a,b) m)∧Below w.heap.size w wr∧wr.heap[w.heap.size]?=some (.cells #[.slice p k c,.slice (some ⟨q,o,none⟩) n2 c2] 26 (0,0)))∧Hid (wr.heap[w3.heap.size]?=some (.cells #[.string s,.int .i64 (cn:Int),.int .i64 tA,.int .i64 tB] 114 (0,0))))
     case atStart=>exact ⟨0,by omega,by omega,rfl,by simpa [lyN] using HF,HXK⟩
     case round=>
      obtain ⟨m,hm,hgm,rfl,HM,HMK⟩:=hrel
      obtain ⟨pz,nz,cz,rfl,hnz⟩:=HM.out.1.form
      have hnz':nz≤54:=by
       have h1:=lyN_len (s,a,b) m
       have h2:=HBL.out.1
       rw [List.length_append] at hnz
       omega
      rcases (show m=2∨m=0∨m=1 by omega) with rfl|hm01
      ·have HJ2:Hid (StO wr w.heap.size (.slice pz nz cz) ((kIn :: D)++(ls.take (j+1)).flatMap lyW)∧Below w.heap.size w wr∧wr.heap[w.heap.size]?=some (.cells #[.slice p k c,.slice (some ⟨q,o,none⟩) n2 c2] 26 (0,0))):=by
        show _∧_
        rw [HBL.out.2]
        exact HM.out
       clear HM HMK HXK HF HBL
       go_wp2
       go_roundg (n2 - (j+1))
       case measure=>omega
       case rel=>exact ⟨j+1,by omega,rfl,by first|rfl|simp,HJ2⟩
      have hm2:(m:Int) < 2:=by omega
      obtain ⟨x,ex⟩:∃ x,(if m=0 then a else b)=x:=⟨_,rfl⟩
      have hix:∀ W,(Instr.index 112 (.agg #[.int .i64 a,.int .i64 b]) (.int .i64 (m:Int))).run Tryz.prog W = .ok (.int .i64 x) W:=by
       intro W
       rcases hm01 with rfl|rfl
       ·rw [if_pos rfl] at ex;subst ex;kernel_rfl
       ·rw [if_neg (by omega)] at ex;subst ex;kernel_rfl
      have HNm:=HNS.out m (by omega)
      rw [ex] at HNm
      have c1:=(box_4 HMK.out).2.1
      by_cases hmc:m < cn
      ·have hmc':(m:Int) < (cn:Int):=by omega
       have hx:0≤x∧x≤9999:=by
        rcases hm01 with rfl|rfl
        ·rw [if_pos rfl] at ex;subst ex;exact HAB.out.1 hmc
        ·rw [if_neg (by omega)] at ex;subst ex;exact HAB.out.2 hmc
       rw [if_pos hmc] at HNm
       have ci:=itoa_any x hx wr (Hid.up_pz hP HM.out.2.1)
       obtain ⟨sx,esx⟩:∃ s,dgB x=s:=⟨_,rfl⟩
       rw [esx] at ci HNm
       have HT:Hid (lyN (s,a,b) (m+1)=lyN (s,a,b) m++[sx]):=HNm
       clear HNm esx hx ex hm01
       go_wp2_with fail
       refine ci.mono ?_
       rintro e w5 ⟨rfl,hB5⟩
       have HI5:Hid (StO w5 w.heap.size (.slice pz nz cz) (base++lyN (s,a,b) m)∧Below w.heap.size w w5∧w5.heap[w.heap.size]?=some (.cells #[.slice p k c,.slice (some ⟨q,o,none⟩) n2 c2] 26 (0,0))):=⟨HM.out.1.up hB5,bstep HM.out.2.1 hB5,(hB5.block _ (heap_lt HM.out.2.2)).trans HM.out.2.2⟩
       have HK5:Hid (w5.heap[w3.heap.size]?=some (.cells #[.string s,.int .i64 (cn:Int),.int .i64 tA,.int .i64 tB] 114 (0,0))):=(hB5.block _ (heap_lt HMK.out)).trans HMK.out
       obtain ⟨A1,A2,A3,A4⟩:=st_app HI5.out.1 HI5.out.2.1.size sx
       rw [hnz] at A1
       clear ci hB5 HM HMK c1 HXK HF
       go_wp2_with (at_builtin;refine wpList_appG strT (by decide) (by decide) rfl (.tmp 57) (.tmp 60) rfl w.heap.size _ _ _ rfl A1.out _ [.string sx] rfl A2.out rfl A3.out (by omega) A4.out ?_;intro v6 w6 H0 O0 B0)
       have HF6:Hid (StO w6 w.heap.size v6 (base++lyN (s,a,b) (m+1))∧Below w.heap.size w w6∧w6.heap[w.heap.size]?=some (.cells #[.slice p k c,.slice (some ⟨q,o,none⟩) n2 c2] 26 (0,0))):=by
        have:=st_push (by decide) HI5.out.2.1 HI5.out.2.1.size HI5.out.2.2 (by rw [hnz];exact H0.out) O0.out B0.out
        show _∧_
        rw [HT.out,← List.append_assoc]
        exact this
       have HK6:Hid (w6.heap[w3.heap.size]?=some (.cells #[.string s,.int .i64 (cn:Int),.int .i64 tA,.int .i64 tB] 114 (0,0))):=O0.out.keep (((up_alloc w5 _).block _ (heap_lt HK5.out)).trans HK5.out) (by decide)
       clear A1 A2 A3 A4 H0 O0 B0 HI5 HK5 HT
       go_wp2
       go_roundg (2 - (m+1))
       case measure=>omega
       case rel=>exact ⟨m+1,by omega,rfl,by first|rfl|simp,HF6,HK6⟩
      ·have hmc':(cn:Int)≤(m:Int):=by omega
       rw [if_neg hmc,List.append_nil] at HNm
       have HF6:Hid (StO wr w.heap.size (.slice pz nz cz) (base++lyN (s,a,b) (m+1))∧Below w.heap.size w wr∧wr.heap[w.heap.size]?=some (.cells #[.slice p k c,.slice (some ⟨q,o,none⟩) n2 c2] 26 (0,0))):=by
        show _∧_
        rw [HNm]
        exact HM.out
       clear HM HNm ex hm01 HXK HF
       go_wp2
       go_roundg (2 - (m+1))
       case measure=>omega
       case rel=>exact ⟨m+1,by omega,rfl,by first|rfl|simp,HF6,HMK⟩
    ·obtain rfl:j=n2:=by omega
     have HWS:Hid ((kIn :: D)++(ls.take j).flatMap lyW=netW d ls):=by
      show _=_
      rw [List.take_of_length_le (by rw [HG.out.2.2.1];exact Nat.le_refl _),HD.out.2]
      rfl
     obtain ⟨ws,ews⟩:∃ ws,netW d ls=ws:=⟨_,rfl⟩
     have hJ:=HJ.out.1
     rw [HWS.out,ews] at hJ hnw
     have hws:0 < ws.length:=by rw [← ews];simp [netW]
     rcases hJ.2 with ⟨_,h0⟩|⟨g,cap,cur,e,hBg,hcur,hcc,h7⟩
     ·omega
     cases e
     have hjn:=Tryz.strings_Join g 0 cw ws ⟨#[32]⟩ wr (fun i x hx=>by
      have:=World.ownsRow.cells hJ rfl i (.string x) (by rw [List.getElem?_map,hx];rfl)
      rw [addr_plus] at this
      exact this) (heap_lt hcur) (by omega) hcc ?hjl
     case hjl=>
      have h1:=netW_len HG.out.1 HG.out.2.1
      rw [ews] at h1
      have h2:=join_len 10000 (ws.map (·.data.toList)) fun u hu=>by
       obtain ⟨x,hx,rfl⟩:=List.mem_map.1 hu
       exact h1 x hx
      rw [List.length_map] at h2
      show (Lib.join (ws.map (·.data.toList)) [32]).length≤_
      omega
     have hjn':Calls Tryz.prog 73 #[.slice (some ⟨g,0,none⟩) ws.length cw,.string ⟨#[32]⟩] wr fun e w'=>e = .returned (.string r)∧Below wr.heap.size wr w':=by
      rw [← HR.out,ews]
      exact hjn
     have HB:Hid (Below w.heap.size w wr):=HJ.out.2.1
     clear hjn hJ hcur h7 HJ HWS
     go_wp2_with fail
     refine hjn'.mono ?_
     rintro e w7 ⟨rfl,hB7⟩
     have HB7:Hid (Below w.heap.size w w7):=bstep HB.out hB7
     clear hjn' hB7
     go_wp2
     go_ret
     exact ⟨rfl,HB7.out⟩
theorem few16 {d:List Int} {ls:List Ly} (h:nE d ls=0):InOk d∧(∀ l∈ls,LayOk l)∧ls.length≤16:=by
 obtain ⟨S,hf,hs,ht⟩:=net_good h
 obtain ⟨h1,h2⟩:=(formB_iff d ls).1 hf
 refine ⟨h1,h2,?_⟩
 unfold tooM at ht
 simp only [Bool.or_eq_false_iff,decide_eq_false_iff_not] at ht
 omega
theorem Text_any (p p2:Option Addr) (n c n2 c2:Nat) (d:List Int) (ls:List Ly) (hbig:n2≤1073741823) (w:World) (hK:Hid (Kz w)) (hP:Hid (Pz w)) (h1:Nums .i64 w (.slice p n c) d) (hL:LyR 0 w p2 n2 ls):
  Calls Tryz.prog 14 #[.agg #[.slice p n c,.slice p2 n2 c2]] w fun e w'=>e = .returned (.string (netT d ls))∧Below w.heap.size w w':=by
 obtain ⟨E,eE⟩:∃ E,nE d ls=E:=⟨_,rfl⟩
 obtain ⟨r,er⟩:∃ r,netT d ls=r:=⟨_,rfl⟩
 obtain ⟨sl,esl⟩:∃ sl,(nS d ls).length=sl:=⟨_,rfl⟩
 have cS:Hid (∀ W,Below w.heap.size w W→Calls Tryz.prog 11 #[.agg #[.slice p n c,.slice p2 n2 c2]] W fun e w'=>∃ ps cs,e = .returned (.tuple #[.slice ps sl cs,.int .i64 E])∧Below W.heap.size W w'):=fun W hW=>by
  have:=Shapes_any p p2 n c n2 c2 d ls hbig W (Hid.up_kz hK hW) (h1.up hW) (hL.up hW)
  rw [eE,esl] at this
  exact this.mono fun e w' ⟨ps,cs,h1,_,h2⟩=>⟨ps,cs,h1,h2⟩
 have HE:Hid (nE d ls=E∧netT d ls=r):=⟨eE,er⟩
 have HA:Hid (Nums .i64 w (.slice p n c) d∧LyR 0 w p2 n2 ls):=⟨h1,hL⟩
 rw [er]
 clear eE er esl h1 hL
 go_enter Tryz.func14,Tryz.ntmps14
 go_wp2_with fail
 generalize hW0:World.alloc _ _=W0
 have HB0:Hid (Below w.heap.size w W0):=by rw [← hW0];exact up_alloc w _
 obtain ⟨g0,g1⟩:W0.cell? ⟨w.heap.size,0,none⟩=some (.slice p n c)∧W0.cell? ⟨w.heap.size,1,none⟩=some (.slice p2 n2 c2):=by rw [← hW0];simp [go_sem]
 clear hW0
 refine (cS.out W0 HB0.out).mono ?_
 rintro e w1 ⟨ps,cs,rfl,hB1⟩
 have HB1:Hid (Below w.heap.size w w1):=bstep HB0.out hB1
 replace g0:=still_cell hB1 g0
 replace g1:=still_cell hB1 g1
 clear cS hB1
 by_cases h0:E=0
 ·subst h0
  obtain ⟨f1,f2,f3⟩:=few16 HE.out.1
  have cw:=written_any p p2 n c n2 c2 d ls f1 f2 f3 w1 (Hid.up_kz hK HB1.out) (Hid.up_pz hP HB1.out) (HA.out.1.up HB1.out) (HA.out.2.up HB1.out)
  rw [show joinW (netW d ls)=r by rw [← HE.out.2];unfold netT;rw [if_pos HE.out.1]] at cw
  clear f1 f2 f3
  go_wp2_with fail
  refine cw.mono ?_
  rintro e w2 ⟨rfl,hB2⟩
  have HB2:Hid (Below w.heap.size w w2):=bstep HB1.out hB2
  clear cw hB2
  go_wp2
  go_ret
  exact ⟨rfl,HB2.out⟩
 ·have hE':(E != 0)=true:=by simpa using h0
  have er:r=⟨#[]⟩:=by rw [← HE.out.2];unfold netT;rw [if_neg (by rw [HE.out.1];exact h0)]
  subst er
  go_wp2
  go_ret
  exact ⟨rfl,HB1.out⟩
end Go.Proofs.YtiampagapgjedaaGreatDoor.Wd
namespace Go.Proofs.YtiampagapgjedaaGreatDoor.Wd
open Go.RowKit Fx
theorem pyF_G {f:Int} {sts:List Sp} {ns:List Nd} (hG:NodesG ns) (hX:∀ st,st∈sts→RI st.X):∀ i,NodesG (pyF f sts ns i).2.1
 | 0=>hG
 | i+1=>by
  have ih:=pyF_G (f:=f) hG hX i
  unfold pyF
  split
  ·dsimp only
   refine ih.st ?_
   by_cases h:i < sts.length
   ·exact hX _ (spA_mem h)
   ·unfold spA
    rw [List.getD_eq_getElem?_getD,List.getElem?_eq_none (by omega)]
    exact RI.nil
  ·exact ih
/-- What Run leaves on the tape are nodes. -/
theorem rnF_G {d:List Int} {ls:List Ly} {ns:List Nd} {P X:List Int} (hG:NodesG ns) (hP:RI P) (hX:RI X):NodesG (rnF d ls ns P X).2.1:=by
 unfold rnF
 by_cases h0:nE d ls=0
 ·rw [if_pos h0]
  by_cases h1:(P.length:Int)=cntP ls (nS d ls) ls.length∧(X.length:Int)=prodI d
  ·rw [if_pos h1]
   by_cases h2:ns.length+(plF d ls (nS d ls) P X ls.length).1.length≤512
   ·rw [if_pos h2]
    refine pyF_G hG (fun st hst=>?_) _
    obtain ⟨S,hf,hs,ht⟩:=net_good h0
    obtain ⟨_,h4,_⟩:=nE_ok hf hs ht
    rw [h4] at hst
    exact ((plF_ok (NetOk.of hf hs) (by unfold tooM at ht;simp at ht;omega) ((formB_iff d ls).1 hf).1.ri hP hX ls.length (Nat.le_refl _)).1 st hst).rX
   ·rw [if_neg h2]
    exact hG
  ·rw [if_neg h1]
   exact hG
 ·rw [if_neg h0]
  exact hG
/-- "in 2 dense 1" -/
def aw12:ByteArray:=⟨#[105,110,32,50,32,100,101,110,115,101,32,49]⟩
abbrev awL:List Ly:=[(kDense,1,0)]
theorem aw_nE:nE [2] awL=0:=by decide +kernel
theorem aw_nP:nP [2] awL=3:=by decide +kernel
theorem aw_pE:pE aw12=0:=by decide +kernel
theorem aw_pX:pX aw12=([2],awL):=by decide +kernel
theorem aw_txt:netT [2] awL=aw12:=by decide +kernel
theorem aw_rE:(rnF [2] awL [] [4294967296,8589934592,5] [3,4]).1=0:=by decide +kernel
theorem aw_rL:(rnF [2] awL [] [4294967296,8589934592,5] [3,4]).2.2.1=5:=by decide +kernel
theorem aw_rP:(rnF [2] awL [] [4294967296,8589934592,5] [3,4]).2.2.2 = [1,2]:=by decide +kernel
theorem aw_rN:(rnF [2] awL [] [4294967296,8589934592,5] [3,4]).2.1.length=6:=by decide +kernel
theorem aw_rX:(rnF [2] awL [] [4294967296,8589934592,5] [3,4]).2.1.map (fun nd=>(nd.D,nd.X)) = [([2],[3,4]),([1,2],[4294967296,8589934592]),([1],[5]),([1,2],[3,8]),([1],[11]),([1],[16])]:=by decide +kernel
theorem aw_op:∀ st,st∈(plF [2] awL (nS [2] awL) [4294967296,8589934592,5] [3,4] awL.length).1→st.op=1∨st.op=4∨st.op=8∨st.op=2:=by
 have h:((plF [2] awL (nS [2] awL) [4294967296,8589934592,5] [3,4] awL.length).1.map Sp.op) = [1,1,1,4,8,2]:=by decide +kernel
 intro st hst
 have:=List.mem_map_of_mem (f:=Sp.op) hst
 rw [h] at this
 simp at this
 omega
theorem prod_ln (n:Nat):prodN (ntl [(n:Int)])=n:=by
 rw [show ntl [(n:Int)] = [n] from ntl_itl [n]]
 simp [prodN]
theorem isP_ln {x:List Int} {n:Nat} (h:x.length=n) (h1:1≤n) (h2:n≤4096):isP [(n:Int)] x:=by
 have en:ntl [(n:Int)] = [n]:=ntl_itl [n]
 refine ⟨?_,h.trans (prod_ln n).symm⟩
 rw [en]
 exact ⟨by simp,fun y hy=>by simp at hy;omega,by simp [prodN];omega⟩
theorem each_e0 {d x y:List Int} (hx:isP d x) (hy:isP d y):eachE d x d y=0:=by
 obtain ⟨a,ga,rfl⟩:=good_itl hx.1
 obtain ⟨f,j⟩:=join_same a
 obtain ⟨p1,p2⟩:=join_fine ga ga f (by rw [j];exact ga)
 exact (if_pos ⟨hx,hy⟩).trans p2
abbrev skL (k:Int):List Ly:=[(kBend,k,0),(kSkip,0,0)]
theorem sk_k:kindI kBend=3∧kindI kSkip=4:=by decide +kernel
theorem sk_form {n:Nat} {k:Int} (hn:1≤n∧n≤40) (hk:1≤k∧k≤5):formB [(n:Int)] (skL k)=true:=by
 refine (formB_iff _ _).2 ⟨.inl ⟨_,rfl,by omega,by omega⟩,fun l hl=>?_⟩
 simp only [List.mem_cons,List.not_mem_nil,or_false] at hl
 rcases hl with rfl|rfl
 ·simp only [LayOk,sk_k.1]
  simpa [kCnt,kTopA] using hk
 ·simp only [LayOk,sk_k.2]
  simp [kCnt]
abbrev skS (n:Nat):List (List Int):=[[(n:Int)],[(n:Int)],[(n:Int)]]
theorem sk_shN (n:Nat) (k:Int):shN [(n:Int)] (skL k) 2=some (skS n):=by
 have h1:shN [(n:Int)] (skL k) 1=some [[(n:Int)],[(n:Int)]]:=by
  rw [shN_succ (S:=[[(n:Int)]]) rfl]
  unfold stepS
  rw [if_neg fun h=>absurd (show kBend=kSkip from h.1) (by decide +kernel)]
  show (outD (kBend,k,0) [(n:Int)]).map _=_
  unfold outD
  simp only [sk_k.1]
  rfl
 rw [shN_succ h1]
 unfold stepS
 have hs:SkipOk (skL k) [[(n:Int)],[(n:Int)]] 1:=⟨by omega,show ¬ kBend=kSkip by decide +kernel,rfl⟩
 rw [if_neg fun h=>h.2 hs]
 show (outD (kSkip,0,0) [(n:Int)]).map _=_
 unfold outD
 simp only [sk_k.2]
 rfl
theorem sk_E {n:Nat} {k:Int} (hn:1≤n∧n≤40) (hk:1≤k∧k≤5):nE [(n:Int)] (skL k)=0∧nS [(n:Int)] (skL k)=skS n:=by
 have hc:∀ i,i≤2→cntP (skL k) (skS n) i=0∧bigN (skL k) (skS n) i=false:=by
  have e0:∀ d,psz (kBend,k,0) d=0∧bigP (kBend,k,0) d=false:=fun d=>by
   unfold psz bigP parD
   simp [sk_k.1]
  have e1:∀ d,psz (kSkip,0,0) d=0∧bigP (kSkip,0,0) d=false:=fun d=>by
   unfold psz bigP parD
   simp [sk_k.2]
  intro i hi
  rcases (show i=0∨i=1∨i=2 by omega) with rfl|rfl|rfl
  ·exact ⟨rfl,rfl⟩
  ·refine ⟨?_,?_⟩
   ·show 0+psz (kBend,k,0) _=0
    rw [(e0 _).1];rfl
   ·show (false || bigP (kBend,k,0) _)=false
    rw [(e0 _).2];rfl
  ·refine ⟨?_,?_⟩
   ·show 0+psz (kBend,k,0) _+psz (kSkip,0,0) _=0
    rw [(e0 _).1,(e1 _).1];rfl
   ·show (false || bigP (kBend,k,0) _ || bigP (kSkip,0,0) _)=false
    rw [(e0 _).2,(e1 _).2];rfl
 have ht:tooM (skL k) (skS n)=false:=by
  unfold tooM
  rw [show (skL k).length=2 from rfl,(hc 2 (by omega)).1,(hc 2 (by omega)).2]
  unfold bigS
  simp [prodI]
  omega
 have:=nE_ok (sk_form hn hk) (sk_shN n k) ht
 exact ⟨this.1,this.2.1⟩
theorem sk_cnt (n:Nat) (k:Int):cntP (skL k) (skS n) 2=0:=by
 have e0:∀ d,psz (kBend,k,0) d=0:=fun d=>by unfold psz;simp [sk_k.1]
 have e1:∀ d,psz (kSkip,0,0) d=0:=fun d=>by unfold psz;simp [sk_k.2]
 show 0+psz (kBend,k,0) _+psz (kSkip,0,0) _=0
 rw [e0,e1];rfl
abbrev skT (n:Nat) (k:Int) (x:List Int):List Sp:=[⟨1,0,0,0,[(n:Int)],x,false⟩,spD 11 0 0 k,spD 2 0 1 0]
theorem sk_plan (n:Nat) (k:Int) (x:List Int):(plF [(n:Int)] (skL k) (skS n) [] x 2).1=skT n k x∧(plF [(n:Int)] (skL k) (skS n) [] x 2).2.2.2=2:=by
 have l0:∀ d N r b l,layS (kBend,k,0) d N r b l = [spD 11 l 0 k]∧layN (kBend,k,0) d N=N:=fun d N r b l=>by
  unfold layS layN parD
  simp [sk_k.1,prS]
 have l1:∀ d N r b l,layS (kSkip,0,0) d N r b l = [spD 2 b l 0]∧layN (kSkip,0,0) d N=N:=fun d N r b l=>by
  unfold layS layN parD
  simp [sk_k.2,prS]
 have a0:lyA (skL k) 0=(kBend,k,0):=rfl
 have a1:lyA (skL k) 1=(kSkip,0,0):=rfl
 simp only [plF,a0,a1,(l0 _ _ _ _ _).1,(l0 _ _ [] 0 0).2,(l1 _ _ _ _ _).1,(l1 _ _ [] 0 0).2]
 exact ⟨rfl,rfl⟩
/-- The third node. -/
abbrev skD (n:Nat) (k:Int) (x:List Int):List Int:=eachD [(n:Int)] x (bentD k [(n:Int)] x) (bentV k [(n:Int)] x)
abbrev skV (n:Nat) (k:Int) (x:List Int):List Int:=eachV (fun a b=>Fx.hold (a+b)) [(n:Int)] x (bentD k [(n:Int)] x) (bentV k [(n:Int)] x)
theorem sk_run {n:Nat} {k:Int} {x:List Int} (hn:1≤n∧n≤40) (hk:1≤k∧k≤5) (hx:x.length=n) (hr:RI x):
  (rnF [(n:Int)] (skL k) [] [] x).1=0∧(rnF [(n:Int)] (skL k) [] [] x).2.2.1=2∧(rnF [(n:Int)] (skL k) [] [] x).2.2.2 = []∧∃ nd,(rnF [(n:Int)] (skL k) [] [] x).2.1[2]?=some nd∧nd.D=skD n k x∧nd.X=skV n k x:=by
 obtain ⟨hE,hS⟩:=sk_E hn hk
 obtain ⟨hp,hl⟩:=sk_plan n k x
 have iP:=isP_ln hx hn.1 (by omega)
 have hb:bentE k [(n:Int)] x=0∧bentD k [(n:Int)] x = [(n:Int)]:=⟨if_pos ⟨hk,iP⟩,if_pos ⟨hk,iP⟩⟩
 have iB:isP [(n:Int)] (bentV k [(n:Int)] x):=by
  have:bentV k [(n:Int)] x=x.map fun y=>Fx.bendI k y:=if_pos ⟨hk,iP⟩
  exact isP_ln (by rw [this];simpa using hx) hn.1 (by omega)
 obtain ⟨N0,eN0⟩:∃ N0:Nd,N0=⟨1,-1,-1,0,[(n:Int)],x⟩:=⟨_,rfl⟩
 obtain ⟨N1,eN1⟩:∃ N1:Nd,N1=⟨11,0,-1,k,bentD k [(n:Int)] x,bentV k [(n:Int)] x⟩:=⟨_,rfl⟩
 obtain ⟨N2,eN2⟩:∃ N2:Nd,N2=⟨2,0,1,0,skD n k x,skV n k x⟩:=⟨_,rfl⟩
 have s0:stE (([]:List Nd).length:Int) [] ⟨1,0,0,0,[(n:Int)],x,false⟩=0∧stN (([]:List Nd).length:Int) [] ⟨1,0,0,0,[(n:Int)],x,false⟩ = [N0]∧stR (([]:List Nd).length:Int) [] ⟨1,0,0,0,[(n:Int)],x,false⟩=0:=by
  have c:([]:List Nd).length < 512∧isP [(n:Int)] x:=⟨by decide,iP⟩
  refine ⟨?_,?_,?_⟩
  ·show leafE [] [(n:Int)] x=0
   unfold leafE
   rw [if_neg (by decide),if_pos iP]
  ·show leafN [] [(n:Int)] x=_
   unfold leafN
   rw [if_pos c,eN0]
   rfl
  ·show leafR [] [(n:Int)] x=0
   unfold leafR
   rw [if_pos c]
   rfl
 have s1:stE (([]:List Nd).length:Int) [N0] (spD 11 0 0 k)=0∧stN (([]:List Nd).length:Int) [N0] (spD 11 0 0 k) = [N0,N1]:=by
  have d0:dE [N0] 11 0 0 k=0:=by rw [eN0];exact hb.1
  have ok:okD [N0] 11 0 0:=⟨by omega,by simp,fun h=>absurd h (by decide)⟩
  have dp:doP [N0] 11 0 0 k:=⟨⟨by simp,ok⟩,d0⟩
  refine ⟨?_,?_⟩
  ·show doE [N0] 11 0 0 k=0
   unfold doE
   rw [if_neg (by simp),if_pos ok]
   exact d0
  ·show doN [N0] 11 0 0 k=_
   unfold doN
   rw [if_pos dp,eN0,eN1]
   rfl
 have s2:stE (([]:List Nd).length:Int) [N0,N1] (spD 2 0 1 0)=0∧stN (([]:List Nd).length:Int) [N0,N1] (spD 2 0 1 0) = [N0,N1,N2]∧stR (([]:List Nd).length:Int) [N0,N1] (spD 2 0 1 0)=2:=by
  have d0:dE [N0,N1] 2 0 1 0=0:=by
   rw [eN0,eN1]
   show eachE [(n:Int)] x (bentD k [(n:Int)] x) (bentV k [(n:Int)] x)=0
   rw [hb.2]
   exact each_e0 iP iB
  have ok:okD [N0,N1] 2 0 1:=⟨by omega,by simp,fun h=>by simp⟩
  have dp:doP [N0,N1] 2 0 1 0:=⟨⟨by simp,ok⟩,d0⟩
  refine ⟨?_,?_,?_⟩
  ·show doE [N0,N1] 2 0 1 0=0
   unfold doE
   rw [if_neg (by simp),if_pos ok]
   exact d0
  ·show doN [N0,N1] 2 0 1 0=_
   unfold doN
   rw [if_pos dp,eN0,eN1,eN2]
   rfl
  ·show doR [N0,N1] 2 0 1 0=2
   unfold doR
   rw [if_pos dp]
   rfl
 have q1:pyF (([]:List Nd).length:Int) (skT n k x) [] 1=(0,[N0],0,[]):=by
  show (if (0:Int)=0 then _ else _)=_
  rw [if_pos rfl]
  show (stE _ [] ⟨1,0,0,0,[(n:Int)],x,false⟩,stN _ [] ⟨1,0,0,0,[(n:Int)],x,false⟩,stR _ [] ⟨1,0,0,0,[(n:Int)],x,false⟩,_)=_
  rw [s0.1,s0.2.1,s0.2.2]
  rfl
 have q2:∃ r,pyF (([]:List Nd).length:Int) (skT n k x) [] 2=(0,[N0,N1],r,[]):=by
  refine ⟨stR (([]:List Nd).length:Int) [N0] (spD 11 0 0 k),?_⟩
  show (if (pyF _ (skT n k x) [] 1).1=0 then _ else _)=_
  rw [q1]
  simp only [if_true]
  show (stE _ [N0] (spD 11 0 0 k),stN _ [N0] (spD 11 0 0 k),stR _ [N0] (spD 11 0 0 k),_)=_
  rw [s1.1,s1.2]
  rfl
 have q3:pyF (([]:List Nd).length:Int) (skT n k x) [] 3=(0,[N0,N1,N2],2,[]):=by
  obtain ⟨r,q2⟩:=q2
  show (if (pyF _ (skT n k x) [] 2).1=0 then _ else _)=_
  rw [q2]
  simp only [if_true]
  show (stE _ [N0,N1] (spD 2 0 1 0),stN _ [N0,N1] (spD 2 0 1 0),stR _ [N0,N1] (spD 2 0 1 0),_)=_
  rw [s2.1,s2.2.1,s2.2.2]
  rfl
 have hrn:rnF [(n:Int)] (skL k) [] [] x=(0,[N0,N1,N2],2,[]):=by
  unfold rnF
  rw [if_pos hE,hS,show (skL k).length=2 from rfl,if_pos ⟨by rw [sk_cnt];rfl,by rw [prodI_one,hx]⟩,hp,if_pos (by show (0:Nat)+3≤512;decide),show (skT n k x).length=3 from rfl,q3]
  rfl
 rw [hrn]
 exact ⟨rfl,rfl,rfl,N2,rfl,by rw [eN2],by rw [eN2]⟩
theorem awake12_any (w:World) (hT:Hid (Tz w)) (hK:Hid (Kz w)) (hP:Hid (Pz w)):
  Calls Tryz.prog 9 #[] w fun e w'=>e = .returned (.bool true)∧Below w.heap.size w w':=by
 haveI:Nonempty World:=⟨w⟩
 have cp:=Parse_any aw12 w hK
 rw [aw_pE,aw_pX] at cp
 go_enter Tryz.func9,Tryz.ntmps9
 go_wp2_with fail
 refine cp.mono ?_
 rintro e w1 ⟨p,n,c,p2,n2,c2,rfl,hd,hl,hB1⟩
 obtain ⟨p',c',e',hl2⟩:=hl.rd
 cases e'
 have HA:Hid (OwnK .i64 3 w1 w.heap.size (.slice p n c) [2]∧LyR 0 w1 p2 1 awL∧Below w.heap.size w w1):=⟨hd,hl2,hB1⟩
 clear hd hl hl2 hB1 cp
 go_wp2_with fail
 generalize hW2:World.alloc _ _=W2
 have hB2:Below w1.heap.size w1 W2:=by rw [← hW2];exact up_alloc w1 _
 obtain ⟨g0,g1⟩:W2.cell? ⟨w1.heap.size,0,none⟩=some (.slice p n c)∧W2.cell? ⟨w1.heap.size,1,none⟩=some (.slice p2 1 c2):=by rw [← hW2];simp [go_sem]
 have HA2:Hid (OwnK .i64 3 W2 w.heap.size (.slice p n c) [2]∧LyR 0 W2 p2 1 awL∧Below w.heap.size w W2):=⟨HA.out.1.up hB2,HA.out.2.1.up hB2,bstep HA.out.2.2 hB2⟩
 have cq:=Params_any p p2 n c 1 c2 [2] awL (by decide) W2 (Hid.up_kz hK HA2.out.2.2) HA2.out.1.nums HA2.out.2.1
 rw [aw_nP,aw_nE] at cq
 clear hW2 hB2 HA
 refine cq.mono ?_
 rintro e w3 ⟨rfl,hB3⟩
 have HA3:Hid (OwnK .i64 3 w3 w.heap.size (.slice p n c) [2]∧LyR 0 w3 p2 1 awL∧Below w.heap.size w w3):=⟨HA2.out.1.up hB3,HA2.out.2.1.up hB3,bstep HA2.out.2.2 hB3⟩
 replace g0:=still_cell hB3 g0
 replace g1:=still_cell hB3 g1
 have HG3:Hid (w3.cell? ⟨w1.heap.size,0,none⟩=some (.slice p n c)∧w3.cell? ⟨w1.heap.size,1,none⟩=some (.slice p2 1 c2)):=⟨g0,g1⟩
 clear hB3 HA2 cq
 go_wp2_with fail
 refine (cnew_any w3).mono ?_
 rintro e w4 ⟨tb,rfl,hT4,hB4⟩
 have HT4:Hid (TapC w4 w3.heap.size tb []∧Below w3.heap.size w3 w4):=⟨hT4,hB4⟩
 replace g0:=still_cell hB4 g0
 replace g1:=still_cell hB4 g1
 have kg0:=cell_size g0
 clear hT4 hB4
 go_wp2_with fail
 generalize hK5:World.alloc _ _=K5
 have hL4:Below w4.heap.size w4 (w4.alloc (.cells #[.int .i64 4294967296,.int .i64 8589934592,.int .i64 5] 61)):=up_alloc w4 _
 have hL5:Below w4.heap.size w4 K5:=by rw [← hK5];exact bstep hL4 (up_alloc _ _)
 have hL6:Below (w4.heap.size+1) (w4.alloc (.cells #[.int .i64 4294967296,.int .i64 8589934592,.int .i64 5] 61)) K5:=by
  rw [← hK5]
  have:=up_alloc (w4.alloc (.cells #[.int .i64 4294967296,.int .i64 8589934592,.int .i64 5] 61)) (.cells #[.int .i64 3,.int .i64 4] 61)
  rw [show (w4.alloc (.cells #[.int .i64 4294967296,.int .i64 8589934592,.int .i64 5] 61)).heap.size=w4.heap.size+1 by simp] at this
  exact this
 have l1:OwnK .i64 61 K5 w4.heap.size (.slice (some ⟨w4.heap.size,0,none⟩) 3 3) [4294967296,8589934592,5]:=by
  have h:=own_lit (k:=.i64) (e:=61) w4 [4294967296,8589934592,5] 3 rfl (by decide)
  refine h.up ?_
  rw [← hK5]
  exact up_alloc _ _
 have l2:OwnK .i64 61 K5 (w4.heap.size+1) (.slice (some ⟨w4.heap.size+1,0,none⟩) 2 2) [3,4]:=by
  have h:=own_lit (k:=.i64) (e:=61) (w4.alloc (.cells #[.int .i64 4294967296,.int .i64 8589934592,.int .i64 5] 61)) [3,4] 2 rfl (by decide)
  rw [show (w4.alloc (.cells #[.int .i64 4294967296,.int .i64 8589934592,.int .i64 5] 61)).heap.size=w4.heap.size+1 by simp] at h
  rw [← hK5]
  exact h
 have HB5:Hid (Below w3.heap.size w3 K5):=bstep HT4.out.2 hL5
 have cr:=Run_any w3.heap.size tb [] NodesG.nil (by simp) [2] awL [4294967296,8589934592,5] [3,4] (RI_kern (by decide +kernel)) (RI_kern (by decide +kernel)) (fun _ st hst ho=>by
  rcases aw_op st hst with h|h|h|h
  ·exact absurd h ho
  ·rw [h];exact RkC.of (by decide) ck4
  ·rw [h];exact RkC.of (by decide) ck8
  ·rw [h];exact RkC.of (by decide) ck2) p p2 (some ⟨w4.heap.size,0,none⟩) (some ⟨w4.heap.size+1,0,none⟩) n c 1 c2 3 3 2 2 (by decide) (by simp) K5 (HT4.out.1.up hL5) (by show ∀ W,_;intro W hW;exact (Hid.up_tz hT (bstep HA3.out.2.2 (HB5.out.trans hW))).out) (Hid.up_kz hK (bstep HA3.out.2.2 HB5.out)) (Kept.below HA3.out.1.nums (Nat.le_refl _) HB5.out) (fun W' hW'=>HA3.out.2.1.up (HB5.out.trans hW'.bel)) (l1.kept (by decide)) (by decide) (l2.kept (by decide))
 rw [aw_rE,aw_rL,aw_rP] at cr
 replace g0:=still_cell hL5 g0
 replace g1:=still_cell hL5 g1
 obtain ⟨NS,eNS⟩:∃ z,(rnF [2] awL [] [4294967296,8589934592,5] [3,4]).2.1=z:=⟨_,rfl⟩
 have HNS:Hid (NodesG NS∧∃ nd,NS[5]?=some nd∧nd.D = [1]∧nd.X = [16]):=by
  rw [← eNS]
  refine ⟨rnF_G NodesG.nil (RI_kern (by decide +kernel)) (RI_kern (by decide +kernel)),?_⟩
  have h1:=aw_rN
  obtain ⟨nd,hnd⟩:∃ nd,(rnF [2] awL [] [4294967296,8589934592,5] [3,4]).2.1[5]?=some nd:=⟨_,List.getElem?_eq_getElem (by rw [h1];decide)⟩
  have h2:((rnF [2] awL [] [4294967296,8589934592,5] [3,4]).2.1.map (fun nd=>(nd.D,nd.X)))[5]?=some ([1],[16]):=by rw [aw_rX];rfl
  rw [List.getElem?_map,hnd] at h2
  simp at h2
  exact ⟨nd,hnd,h2.1,h2.2⟩
 rw [eNS] at cr
 clear eNS l1 l2 hL4 hL5 hL6 hK5
 refine cr.mono ?_
 rintro e w6 ⟨v6,rfl,ho6,hT6,hB6⟩
 obtain ⟨pv,nv,cv,rfl,HCv⟩:=ho6.nums.lst
 have hnv:2=nv:=HCv.out.1
 subst hnv
 have HA6:Hid (Below w3.heap.size w3 w6):=HB5.out.trans hB6
 replace g0:=still_cell HA6.out HG3.out.1
 replace g1:=still_cell HA6.out HG3.out.2
 have kg6:=cell_size g0
 have HT6:Hid (TapC w6 w3.heap.size tb NS):=hT6
 clear ho6 hT6 hB6 cr HCv kg0
 go_wp2_with fail
 obtain ⟨hGN,nd,hnd,hD,hX⟩:=HNS.out
 have cv:=cvalue_any w3.heap.size tb NS hGN 5 nd hnd w6 HT6.out
 rw [hD,hX] at cv
 refine cv.mono ?_
 rintro e w7 ⟨v7,rfl,⟨s7,t7,rfl,hs7,ht7⟩,hB7⟩
 obtain ⟨ps7,ns7,cs7,rfl⟩:=hs7.form_
 obtain ⟨pt7,nt7,ct7,rfl,HC7⟩:=ht7.nums.lst
 have hnt:1=nt7:=HC7.out.1
 subst hnt
 obtain ⟨q7,o7,rfl,c7⟩:=HC7.out.2 0 (by decide)
 rw [Nat.add_zero] at c7
 have c70:w7.cell? ⟨q7,o7,none⟩=some (.int .i64 16):=c7
 have HA7:Hid (Below w3.heap.size w3 w7):=bstep HA6.out hB7
 replace g0:=still_cell hB7 g0
 replace g1:=still_cell hB7 g1
 have kg7:=cell_size g0
 have kc7:=cell_size c70
 have hn1:LyR 0 w7 p2 1 awL:=HA3.out.2.1.up HA7.out
 have cx:Hid (∀ W,Below w7.heap.size w7 W→Calls Tryz.prog 14 #[.agg #[.slice p n c,.slice p2 1 c2]] W fun e w'=>e = .returned (.string aw12)∧Below W.heap.size W w'):=fun W hW=>by
  have h5:=bstep HA3.out.2.2 (bstep HA7.out hW)
  have:=Text_any p p2 n c 1 c2 [2] awL (by decide) W (Hid.up_kz hK h5) (Hid.up_pz hP h5) (HA3.out.1.nums.up (bstep HA7.out hW)) (hn1.up hW)
  rw [aw_txt] at this
  exact this
 clear cv hGN hnd hD hX c7 HC7 hs7 ht7 hB7 hn1
 go_wp2_with fail
 refine (cx.out _ (up_alloc w7 _)).mono ?_
 rintro e w8 ⟨rfl,hB8⟩
 have HF:Hid (Below w.heap.size w w8):=bstep HA3.out.2.2 (bstep HA7.out (bstep (up_alloc w7 _) hB8))
 clear hB8 cx
 have haw:(aw12.toList == [105,110,32,50,32,100,101,110,115,101,32,49])=true:=by decide +kernel
 go_wp2
 go_ret
 exact ⟨rfl,HF.out⟩
end Go.Proofs.YtiampagapgjedaaGreatDoor.Wd
namespace Go.Proofs.YtiampagapgjedaaGreatDoor.Wd
open Go.RowKit
theorem kind_cells {H:Type} {enc:TypeId×Value→H} {P:Program} {w:World} {base:Nat} {sp:Nat→Bool} {held:Bool} {fuel:Nat} {e q:TypeId} {f0 f1 f2:Field} {ds:List Value} {bs:List UInt8} {a b c:Int} {p:List MemPlace}
  (he:P.underlying e=some (.struct #[f0,f1,f2])) (ce:P.cellsOf e=4) (o0:f0.offset=0) (o1:f1.offset=1) (o2:f2.offset=2) (c0:P.cellsOf f0.type=1) (c1:P.cellsOf f1.type=1) (c2:P.cellsOf f2.type=2)
  (u0:P.underlying f0.type=some .string) (u1:P.underlying f1.type=some (.int .i64)) (u2:P.underlying f2.type=some (.array 2 q)) (uq:P.underlying q=some (.int .i64)) (cq:P.cellsOf q=1)
  (h:DataW.trod enc P w base sp held fuel e ds=some (.agg [.lit (.string bs),.lit (.int .i64 a),.agg [.lit (.int .i64 b),.lit (.int .i64 c)]],p)):ds = [.string ⟨bs.toArray⟩,.int .i64 a,.int .i64 b,.int .i64 c]:=by
 obtain ⟨ys,n,_,hx,hl,hyl,hf⟩:=DataW.trod_struct he h
 rw [ce] at hl
 have hxs:=(Prod.mk.inj hx).1
 simp only [DataW.agg.injEq] at hxs
 match ys,hyl with
 | [y0,y1,y2],_=>
  simp only [List.map_cons,List.map_nil,List.cons.injEq,and_true] at hxs
  obtain ⟨h0,h1,h2⟩:=hxs
  have t0:=hf 0 f0 rfl
  have t1:=hf 1 f1 rfl
  have t2:=hf 2 f2 rfl
  match ds,hl with
  | [v0,v1,v2,v3],_=>
   simp [o0,c0] at t0
   simp [o1,c1] at t1
   simp [o2,c2] at t2
   obtain ⟨z0,e0,x0,_⟩:=DataW.trod_string u0 t0
   obtain ⟨z1,e1,x1,_⟩:=DataW.trod_int u1 t1
   obtain ⟨y20,y21⟩:=y2
   simp only [] at h2
   subst h2
   have e2:=Lib.cells_of_tab (zs:=[b,c]) u2 uq cq c2 t2
   simp only [List.cons.injEq,and_true,List.map_cons,List.map_nil] at e0 e1 e2
   obtain ⟨e2,e3⟩:=e2
   subst e0 e1 e2 e3
   rw [x0] at h0
   rw [x1] at h1
   simp only [DataW.lit.injEq,Lit.string.injEq,Lit.int.injEq,true_and] at h0 h1
   subst h1
   rw [h0]
theorem cut20 {α:Type} (l:List α) (h:l.length=20):l=(l.drop 0).take 4++((l.drop 4).take 4++((l.drop 8).take 4++((l.drop 12).take 4++(l.drop 16).take 4))):=by
 have k:∀ n,l.drop n=(l.drop n).take 4++l.drop (n+4):=fun n=>by
  have:=(List.take_append_drop 4 (l.drop n)).symm
  rw [List.drop_drop] at this
  exact this
 conv=>lhs;rw [← List.drop_zero (l:=l),k 0,k 4,k 8,k 12,k 16,List.drop_eq_nil_of_le (show l.length≤16+4 by omega),List.append_nil]
theorem kinds_cells {H:Type} {enc:TypeId×Value→H} {P:Program} {w:World} {base:Nat} {sp:Nat→Bool} {held:Bool} {fuel:Nat} {t e q:TypeId} {f0 f1 f2:Field} {cs:List Value} {p:List MemPlace}
  (ht:P.underlying t=some (.array 5 e)) (ct:P.cellsOf t=20)
  (he:P.underlying e=some (.struct #[f0,f1,f2])) (ce:P.cellsOf e=4) (o0:f0.offset=0) (o1:f1.offset=1) (o2:f2.offset=2) (c0:P.cellsOf f0.type=1) (c1:P.cellsOf f1.type=1) (c2:P.cellsOf f2.type=2)
  (u0:P.underlying f0.type=some .string) (u1:P.underlying f1.type=some (.int .i64)) (u2:P.underlying f2.type=some (.array 2 q)) (uq:P.underlying q=some (.int .i64)) (cq:P.cellsOf q=1)
  (h:DataW.trod enc P w base sp held fuel t cs=some (Rows.laid_carousel_model_kinds,p)):cs=kArr.toList:=by
 cases fuel with
 | zero=>simp [DataW.trod] at h
 | succ fuel=>
  simp only [DataW.trod,ht,ce,ct] at h
  split at h
  ·rename_i hl
   obtain ⟨xs,hm,hx⟩:=Option.map_eq_some_iff.1 h
   have hxs:=(Prod.mk.inj hx).1
   unfold Rows.laid_carousel_model_kinds at hxs
   simp only [DataW.agg.injEq] at hxs
   have hxl:xs.length=5:=by simpa using Lib.mapM_length hm
   have g:=fun i (hi:i < 5)=>Lib.mapM_at hm i i (by simp [hi])
   obtain ⟨b0,hb0,g0⟩:=g 0 (by omega)
   obtain ⟨b1,hb1,g1⟩:=g 1 (by omega)
   obtain ⟨b2,hb2,g2⟩:=g 2 (by omega)
   obtain ⟨b3,hb3,g3⟩:=g 3 (by omega)
   obtain ⟨b4,hb4,g4⟩:=g 4 (by omega)
   match xs,hxl with
   | [(d0,q0),(d1,q1),(d2,q2),(d3,q3),(d4,q4)],_=>
    simp only [List.map_cons,List.map_nil,List.cons.injEq,and_true] at hxs
    obtain ⟨rfl,rfl,rfl,rfl,rfl⟩:=hxs
    simp at hb0 hb1 hb2 hb3 hb4
    subst hb0 hb1 hb2 hb3 hb4
    have r0:=kind_cells he ce o0 o1 o2 c0 c1 c2 u0 u1 u2 uq cq g0
    have r1:=kind_cells he ce o0 o1 o2 c0 c1 c2 u0 u1 u2 uq cq g1
    have r2:=kind_cells he ce o0 o1 o2 c0 c1 c2 u0 u1 u2 uq cq g2
    have r3:=kind_cells he ce o0 o1 o2 c0 c1 c2 u0 u1 u2 uq cq g3
    have r4:=kind_cells he ce o0 o1 o2 c0 c1 c2 u0 u1 u2 uq cq g4
    rw [cut20 cs (by omega)]
    rw [show (List.drop 0 cs).take 4=_ from r0,show (List.drop 4 cs).take 4=_ from r1,show (List.drop 8 cs).take 4=_ from r2,show (List.drop 12 cs).take 4=_ from r3,show (List.drop 16 cs).take 4=_ from r4]
    rfl
  ·cases h
theorem kz_var {W : World} (h : W.var? Tryz.prog "carousel/model.kinds" = some kArr) : Kz W := by
 have hc:=World.var?_cell (g:=0) (by kernel_rfl) h
 intro i hi
 have e:∀ j,j < 20→kArr[j]?=kArr.toList[j]?:=fun j _=>by simp
 rcases (show i=0∨i=1∨i=2∨i=3∨i=4 by omega) with rfl|rfl|rfl|rfl|rfl
 ·exact ⟨(hc 0).trans rfl,(hc 1).trans rfl,(hc 2).trans rfl,(hc 3).trans rfl⟩
 ·exact ⟨(hc 4).trans rfl,(hc 5).trans rfl,(hc 6).trans rfl,(hc 7).trans rfl⟩
 ·exact ⟨(hc 8).trans rfl,(hc 9).trans rfl,(hc 10).trans rfl,(hc 11).trans rfl⟩
 ·exact ⟨(hc 12).trans rfl,(hc 13).trans rfl,(hc 14).trans rfl,(hc 15).trans rfl⟩
 ·exact ⟨(hc 16).trans rfl,(hc 17).trans rfl,(hc 18).trans rfl,(hc 19).trans rfl⟩
end Go.Proofs.YtiampagapgjedaaGreatDoor.Wd
