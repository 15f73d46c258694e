/- The reference's numerals. · The reference's Text. · ModelShapes: any net's shapes, and how many parameters it has, or why it is none. · The listed tables, as the walks ask for them: the kinds of layers, the powers of ten. -/
import Derived.Test.YtiampagapgjedaaGreatDoorS30
import Derived.Test.YtiampagapgjedaaGreatDoorS08
import Derived.Test.YtiampagapgjedaaGreatDoorS33
import Derived.Test.YtiampagapgjedaaGreatDoorS23
import Derived.Test.YtiampagapgjedaaGreatDoorS31
import Derived.Test.YtiampagapgjedaaGreatDoorRows
import Derived.Lib.LaidTab
set_option linter.unusedVariables false
set_option linter.unusedSimpArgs false
set_option maxHeartbeats 16000000
set_option maxRecDepth 16000
namespace Go.Proofs.YtiampagapgjedaaGreatDoor.Rf
open Go.RowKit Fx
theorem nDig_le:∀ (k n:Nat),n < 10 ^ (k+1)→Lib.nDigits n≤k+1
 | 0,n,h=>by rw [Lib.nDigits_small (by simpa using h)];omega
 | k+1,n,h=>by
  by_cases h10:n < 10
  ·rw [Lib.nDigits_small h10];omega
  ·rw [Lib.nDigits_big h10]
   have:=nDig_le k (n / 10) (by rw [Nat.pow_succ] at h;omega)
   omega
theorem app_mk (a b:List UInt8):(⟨a.toArray⟩:ByteArray)++⟨b.toArray⟩=⟨(a++b).toArray⟩:=by
 apply ByteArray.ext
 rw [ByteArray.data_append]
 simp
/-- One byte, as a string. -/
def b1 (c:Int):ByteArray:=⟨#[UInt8.ofNat c.toNat]⟩
theorem conv1 (W:World) (b:Nat) (c:Int) (h0:0≤c) (h1:c < 256) (h:W.cell? ⟨b,0,none⟩=some (.int .u8 c)):
  Sem.run Tryz.prog (convert 162 9 (.slice (some ⟨b,0,none⟩) 1 1)) W = .ok (.string (b1 c)) W:=by
 have hx:((UInt8.ofNat c.toNat).toNat:Int)=c:=by
  rw [UInt8.toNat_ofNat']
  omega
 exact run_convert_bytes_back (P:=Tryz.prog) W 162 9 5 ⟨b,0,none⟩ 1 [UInt8.ofNat c.toNat] Tryz.underlying162 Tryz.underlying5 Tryz.underlying9 (fun j hj=>by
  have:j=0:=by simpa using hj
  subst this
  show W.cell? ⟨b,0,none⟩=some (.int .u8 ((UInt8.ofNat c.toNat).toNat:Int))
  rw [hx]
  exact h)
theorem digits_one (n:Int) (u:Nat) (en:Hid (n=(u:Int))) (hn:0≤n∧n < 10) (w:World):
  Calls Tryz.prog 74 #[.int .u64 n] w fun e w'=>e = .returned (.string (b1 (48+n)))∧Below w.heap.size w w':=by
 have hcv:=fun W b=>conv1 W b (48+n) (by omega) (by omega)
 go_enter Tryz.func74,Tryz.ntmps74
 go_wp2
 go_ret
 exact ⟨rfl,by go_grown⟩
theorem digits_more (n:Int) (hn:10≤n∧n < 18446744073709551616) (s:ByteArray) (hs:s.size≤20)
  (q c:Int) (r1:IntKind.u64.wrap (n.tdiv 10)=q) (r2:IntKind.u8.wrap (IntKind.u64.wrap (48+n.tmod 10))=c) (hc:48≤c∧c≤57)
  (ih:Hid (∀ w,Calls Tryz.prog 74 #[.int .u64 q] w fun e w'=>e = .returned (.string s)∧Below w.heap.size w w')) (w:World):
  Calls Tryz.prog 74 #[.int .u64 n] w fun e w'=>e = .returned (.string (s++b1 c))∧Below w.heap.size w w':=by
 have hcv:=fun W b=>conv1 W b c (by omega) (by omega)
 have hsz:(b1 c).size≤1:=Nat.le_refl _
 go_enter Tryz.func74,Tryz.ntmps74
 go_wp2_with fail
 go_region_with (go_at_call 74;refine (ih.out _).mono ?_;rintro e w1 ⟨rfl,hb⟩;obtain ⟨hcell,hfroz⟩:=Wd.bcell hb;simp only [World.size_alloc,World.size_drew] at hcell hfroz;have hB:Below w.heap.size w w1:=Below.trans (by go_grown) (hb.mono (by simp;try omega));have hsz1:=hb.size;simp at hsz1)
 all_goals
  go_wp2
  go_ret
  exact ⟨rfl,by go_grown⟩
theorem b1_digit (k:Nat) (h:k < 10):b1 (48+(k:Int))=⟨#[UInt8.ofNat (48+k)]⟩:=by
 unfold b1
 rw [show (48+(k:Int)).toNat=48+k by omega]
/-- The reference's numeral of a number. -/
theorem digits_ref (u:Nat):u < 18446744073709551616→∀ w:World,
  Calls Tryz.prog 74 #[.int .u64 (u:Int)] w fun e w'=>e = .returned (.string ⟨(Lib.decDigits u).toArray⟩)∧Below w.heap.size w w':=by
 induction u using Nat.strongRecOn with
 | _ u ih=>
  intro hu w
  by_cases h:u < 10
  ·have c:=digits_one (u:Int) u rfl (by omega) w
   rw [b1_digit u h] at c
   rw [Lib.decDigits_one h]
   exact c
  ·have hsz:(⟨(Lib.decDigits (u / 10)).toArray⟩:ByteArray).size≤20:=by
    show (Lib.decDigits (u / 10)).toArray.size≤20
    rw [List.size_toArray,Lib.decDigits_length]
    exact nDig_le 19 _ (by omega)
   have c:=digits_more (u:Int) (by omega) ⟨(Lib.decDigits (u / 10)).toArray⟩ hsz ((u / 10:Nat):Int) (48+((u % 10:Nat):Int))
    (by rw [IntKind.wrap_u64,Int.tdiv_eq_ediv_of_nonneg (by omega)];omega)
    (by rw [IntKind.wrap_u8,IntKind.wrap_u64,Int.tmod_eq_emod_of_nonneg (by omega)];omega) (by omega)
    (fun w=>ih (u / 10) (by omega) (by omega) w) w
   rw [b1_digit (u % 10) (by omega),show (⟨#[UInt8.ofNat (48+u % 10)]⟩:ByteArray)=⟨([UInt8.ofNat (48+u % 10)]:List UInt8).toArray⟩ from rfl,app_mk] at c
   rw [Lib.decDigits,dif_neg h]
   exact c
theorem digits_at (n:Int) (u:Nat) (s:ByteArray) (en:n=(u:Int)) (hu:u < 18446744073709551616) (es:s=⟨(Lib.decDigits u).toArray⟩) (w:World):
  Calls Tryz.prog 74 #[.int .u64 n] w fun e w'=>e = .returned (.string s)∧Below w.heap.size w w':=by
 subst en es
 exact digits_ref u hu w
theorem num_any (x:Int) (hx:0≤x∧x≤9999) (w:World):Calls Tryz.prog 41 #[.int .i64 x] w fun e w'=>e = .returned (.string (Wd.dgB x))∧Below w.heap.size w w':=by
 have cD:=digits_at x x.toNat (Wd.dgB x) (by omega) (by omega) rfl w
 obtain ⟨D,eD⟩:∃ D,Wd.dgB x=D:=⟨_,rfl⟩
 rw [eD] at cD ⊢
 clear eD
 go_enter Tryz.func41,Tryz.ntmps41
 go_wp2_with fail
 refine cD.mono ?_
 rintro e w1 ⟨rfl,hB⟩
 go_wp2
 go_ret
 exact ⟨rfl,hB⟩
end Go.Proofs.YtiampagapgjedaaGreatDoor.Rf
namespace Go.Proofs.YtiampagapgjedaaGreatDoor.Wd
open Go.RowKit Fx
theorem ba_ext {a b:ByteArray} (h:a.data.toList=b.data.toList):a=b:=by
 obtain ⟨⟨x⟩⟩:=a
 obtain ⟨⟨y⟩⟩:=b
 simp at h
 rw [h]
theorem join_cons (a b:List UInt8) (r:List (List UInt8)):Lib.join (a :: b :: r) [32]=a++([32]++Lib.join (b :: r) [32]):=by
 simp [Lib.join,List.intercalate,List.intersperse]
theorem join_app:∀ (l:List (List UInt8)) (u:List UInt8),l≠[]→Lib.join (l++[u]) [32]=Lib.join l [32]++[32]++u
 | [],u,h=>absurd rfl h
 | [a],u,_=>by
  show Lib.join (a :: u :: []) [32]=_
  rw [join_cons]
  simp [Lib.join,List.intercalate,List.intersperse]
 | a :: b :: r,u,_=>by
  have:=join_app (b :: r) u (by simp)
  show Lib.join (a :: b :: (r++[u])) [32]=_
  rw [join_cons,join_cons,show b :: (r++[u])=(b :: r)++[u] from rfl,this]
  simp [List.append_assoc]
theorem ba_app (a b:ByteArray):(a++b).data.toList=a.data.toList++b.data.toList:=by
 obtain ⟨⟨x⟩⟩:=a
 obtain ⟨⟨y⟩⟩:=b
 rw [Rf.app_mk]
theorem joinW_app (ws:List ByteArray) (u:ByteArray) (h:ws≠[]):joinW (ws++[u])=joinW ws++⟨#[32]⟩++u:=by
 apply ba_ext
 rw [ba_app,ba_app]
 unfold joinW
 rw [List.map_append,List.map_cons,List.map_nil,join_app _ _ (by simpa using h)]
theorem joinW_small {ws:List ByteArray} (h:∀ w∈ws,w.data.toList.length≤5) (hn:ws.length≤60):(joinW ws).size≤400:=by
 have h1:=join_len 5 (ws.map (·.data.toList)) fun u hu=>by
  obtain ⟨x,hx,rfl⟩:=List.mem_map.1 hu
  exact h x hx
 have h3:(joinW ws).size=(Lib.join (ws.map (·.data.toList)) [32]).length:=by
  unfold joinW
  simp [ByteArray.size]
 rw [List.length_map] at h1
 omega
theorem size_list (u:ByteArray):u.size=u.data.toList.length:=by
 show u.data.size=_
 simp
/-- The words that were written behind k layers. -/
def wrL (d:List Int) (ls:List Ly) (k:Nat):List ByteArray:=kIn :: (d.map dgB++(ls.take k).flatMap lyW)
theorem wrL_ok {d:List Int} {ls:List Ly} (hd:InOk d) (hl:∀ l∈ls,LayOk l) (k:Nat):∀ w∈wrL d ls k,w.data.toList.length≤5:=fun w hw=>(netW_ok hd (fun l h=>hl l (List.mem_of_mem_take h)) w hw).2
theorem wrL_len {d:List Int} {ls:List Ly} (hd:InOk d) (hn:ls.length≤16) (k:Nat):(wrL d ls k).length≤51:=by
 unfold wrL
 have:=wdsL_len (ls.take k)
 have:=(in_rng hd).1
 simp only [List.length_cons,List.length_append,List.length_map,List.length_take] at this ⊢
 have h3:(ls.take k).length≤16:=by simp;omega
 have:=wdsL_len (ls.take k)
 omega
theorem wrI_ok {d:List Int} (hd:InOk d) (k:Nat):∀ w∈kIn :: (d.take k).map dgB,w.data.toList.length≤5:=fun w hw=>by
 simp only [List.mem_cons,List.mem_map] at hw
 rcases hw with rfl|⟨x,hx,rfl⟩
 ·simp [kIn]
 ·exact (dg_ok ((in_rng hd).2.2 x (List.mem_of_mem_take hx))).2.2
theorem rtext_any (p p2:Option Addr) (n c n2 c2:Nat) (d:List Int) (ls:List Ly) (hbig:n2≤1073741823) (w:World) (h1:Nums .i64 w (.slice p n c) d) (hL:LyR 0 w p2 n2 ls):
  Calls Tryz.prog 18 #[.agg #[.slice p n c,.slice p2 n2 c2]] w fun e w'=>e = .returned (.string (netT d ls))∧Below w.heap.size w w':=by
 haveI:Nonempty World:=⟨w⟩
 have HK:Hid (Nums .i64 w (.slice p n c) d∧LyR 0 w p2 n2 ls):=⟨h1,hL⟩
 obtain ⟨X,eX⟩:∃ X,netT d ls=X:=⟨_,rfl⟩
 have HT:Hid (netT d ls=X):=eX
 rw [eX]
 clear h1 hL eX
 go_enter Tryz.func18,Tryz.ntmps18
 go_wp2_with fail
 generalize hW0:World.alloc _ _=W0
 have HB0:Hid (Below w.heap.size w W0):=by rw [← hW0];exact up_alloc w _
 obtain ⟨g0,g1⟩:W0.cell? ⟨w.heap.size,0,none⟩=some (.slice p n c)∧W0.cell? ⟨w.heap.size,1,none⟩=some (.slice p2 n2 c2):=by rw [← hW0];simp [go_sem]
 clear hW0
 obtain ⟨E,eE⟩:∃ E,nE d ls=E:=⟨_,rfl⟩
 obtain ⟨P,eP⟩:∃ P,nP d ls=P:=⟨_,rfl⟩
 have HE:Hid (nE d ls=E):=eE
 refine (rshapes_any p p2 n c n2 c2 d ls hbig W0 (HK.out.1.up HB0.out) (HK.out.2.up HB0.out)).mono ?_
 rintro e w1 ⟨⟨v1,rfl,hv1⟩,hB⟩
 obtain ⟨pv,cv,rfl,-⟩:=hv1.rd
 rw [eE,eP]
 have HB1:Hid (Below w.heap.size w w1):=bstep HB0.out hB
 replace g0:=still_cell hB g0
 replace g1:=still_cell hB g1
 have kg:=cell_size g0
 clear hB HB0 eE eP hv1
 by_cases h0:E=0
 case neg=>
  have h0':(E != 0)=true:=by simpa using h0
  have hx:X=⟨#[]⟩:=by rw [← HT.out];exact if_neg (by rw [HE.out];exact h0)
  subst hx
  clear h0
  go_wp2
  go_ret
  exact ⟨rfl,HB1.out⟩
 subst h0
 obtain ⟨hd,hly,hn16⟩:=few16 HE.out
 have HD:Hid (InOk d∧(∀ l∈ls,LayOk l)∧ls.length≤16):=⟨hd,hly,hn16⟩
 obtain ⟨p',n',c',e',HC⟩:=HK.out.1.lst
 cases e'
 have hn2:(n:Int)≤2:=by have:=(in_rng hd).1;rw [HC.out.1] at this;omega
 have hm16:(n2:Int)≤16:=by rw [HK.out.2.1] at hn16;omega
 have HG1:Hid (w1.cell? ⟨w.heap.size,0,none⟩=some (.slice p n c)∧w1.cell? ⟨w.heap.size,1,none⟩=some (.slice p2 n2 c2)):=⟨g0,g1⟩
 clear hd hly hn16 g0 g1 kg
 go_wp2_with fail
 go_loopg [6,7] n (fun gg u v wr=>∃ (k:Nat) (s:ByteArray),k≤n∧gg=n - k∧u = .string s∧v = .int .i64 (k:Int)∧Hid (s=joinW (kIn :: (d.take k).map dgB))∧Hid (Below w1.heap.size w1 wr))
 case atStart=>exact ⟨0,kIn,by omega,by omega,rfl,rfl,by show _=_;apply ba_ext;simp [joinW,Lib.join],Below.refl _ _⟩
 case round=>
  obtain ⟨k,s,hk,hg,rfl,rfl,Hs,HB⟩:=hrel
  have g0:=still_cell HB.out HG1.out.1
  have g1:=still_cell HB.out HG1.out.2
  have kg:=cell_size g0
  by_cases hkn:k < n
  ·have hk':(k:Int) < (n:Int):=by omega
   obtain ⟨q,o,rfl,hc0⟩:=HC.out.2 k hkn
   have hkl:k < d.length:=by rw [HC.out.1];exact hkn
   have hx:=in_at HD.out.1 k hkl
   obtain ⟨x,ex⟩:∃ x,d.getD k 0=x:=⟨_,rfl⟩
   rw [ex] at hc0 hx
   replace hc0:=still_cell (bstep HB1.out HB.out) hc0
   have kc:=cell_size hc0
   have hs4:s.size≤400:=by rw [Hs.out];exact joinW_small (wrI_ok HD.out.1 k) (by have:=(in_rng HD.out.1).1;simp;omega)
   have hx5:(dgB x).size≤5:=by rw [size_list];exact (dg_ok (by omega)).2.2
   have HS2:Hid (s++⟨#[32]⟩++dgB x=joinW (kIn :: (d.take (k+1)).map dgB)):=by
    show _=_
    rw [take_map d k hkl,ex,← List.cons_append,joinW_app _ _ (by simp),← Hs.out]
   have h1s:(⟨#[32]⟩:ByteArray).size=1:=rfl
   have hss:(s++⟨#[32]⟩).size≤401:=by rw [ByteArray.size_append];omega
   clear ex hkl
   go_wp2_with fail
   refine (Rf.num_any x (by omega) wr).mono ?_
   rintro e w2 ⟨rfl,hB2⟩
   have HB2:Hid (Below w1.heap.size w1 w2):=bstep HB.out hB2
   clear hB2 hc0 kc g0 g1 kg
   go_wp2
   go_roundg (n - (k+1))
   case measure=>omega
   case rel=>exact ⟨k+1,_,by omega,rfl,rfl,by first|rfl|simp,HS2,HB2⟩
  ·obtain rfl:k=n:=by omega
   obtain ⟨wa,ewa⟩:∃ wa:World,wa=wr:=⟨_,rfl⟩
   subst ewa
   have hs0:s=joinW (wrL d ls 0):=by
    rw [Hs.out,List.take_of_length_le (by rw [HC.out.1];exact Nat.le_refl _)]
    simp [wrL]
   have HS0:Hid (s=joinW (wrL d ls 0)):=hs0
   have HW:Hid (wa.cell? ⟨w.heap.size,1,none⟩=some (.slice p2 n2 c2)∧Below w.heap.size w wa):=⟨g1,bstep HB1.out HB.out⟩
   clear hs0 Hs HB
   go_wp2_with fail
   clear g0 g1 kg
   go_loopg [6,8] n2 (fun gg u v wr=>∃ (j:Nat) (t:ByteArray),j≤n2∧gg=n2 - j∧u = .string t∧v = .int .i64 (j:Int)∧Hid (t=joinW (wrL d ls j))∧Hid (Below wa.heap.size wa wr))
   case atStart=>exact ⟨0,s,by omega,by omega,rfl,rfl,HS0,Below.refl _ _⟩
   case round=>
    obtain ⟨j,t,hj,hg2,rfl,rfl,Ht,HB⟩:=hrel
    have g1:=still_cell HB.out HW.out.1
    have kg:=cell_size g1
    by_cases hjn:j < n2
    ·have hj':(j:Int) < (n2:Int):=by omega
     have hjl:j < ls.length:=by rw [HK.out.2.1];exact hjn
     obtain ⟨q,o,rfl,c0,c1,c2'⟩:=(HK.out.2.up (bstep HW.out.2 HB.out)).2 j hjn
     have hl:=HD.out.2.1 _ (lyA_mem hjl)
     have HN:Hid (joinW (wrL d ls (j+1))=joinW (wrL d ls j++lyW (lyA ls j))):=by
      show _=_
      unfold wrL
      rw [take_flat ls j hjl]
      simp
     obtain ⟨l,el⟩:∃ l,lyA ls j=l:=⟨_,rfl⟩
     obtain ⟨s',x,y⟩:=l
     rw [el] at c0 c1 c2' hl HN
     have hlt:=cell_size c0
     have ht4:t.size≤400:=by rw [Ht.out];exact joinW_small (wrL_ok HD.out.1 HD.out.2.1 j) (by have:=wrL_len HD.out.1 HD.out.2.2 j;omega)
     have hw:=kind_w s' hl.1
     have hs5:s'.size≤5:=by rw [size_list];exact hw.2.2
     have h1s:(⟨#[32]⟩:ByteArray).size=1:=rfl
     have ht1:(t++⟨#[32]⟩).size≤401:=by rw [ByteArray.size_append];omega
     have ht2:(t++⟨#[32]⟩++s').size≤406:=by rw [ByteArray.size_append];omega
     have ht3:(t++⟨#[32]⟩++s'++⟨#[32]⟩).size≤407:=by rw [ByteArray.size_append];omega
     obtain ⟨k0,k1,k2,k3,k4⟩:=kts s'
     have HBn:Hid (∀ W,Below wr.heap.size wr W→Below wa.heap.size wa W):=fun W hW=>bstep HB.out hW
     have HJ0:Hid (joinW (wrL d ls j++[s'])=t++⟨#[32]⟩++s'):=by show _=_;rw [joinW_app _ _ (by simp [wrL]),← Ht.out]
     have HJ1:Hid (∀ u,joinW (wrL d ls j++[s',u])=t++⟨#[32]⟩++s'++⟨#[32]⟩++u):=fun u=>by
      rw [show wrL d ls j++[s',u]=(wrL d ls j++[s'])++[u] by simp,joinW_app _ _ (by simp),HJ0.out]
     have HJ2:Hid (∀ u v,joinW (wrL d ls j++[s',u,v])=t++⟨#[32]⟩++s'++⟨#[32]⟩++u++⟨#[32]⟩++v):=fun u v=>by
      rw [show wrL d ls j++[s',u,v]=(wrL d ls j++[s',u])++[v] by simp,joinW_app _ _ (by simp),HJ1.out]
     have hcase:(kindI s'=4)∨(kindI s'=1∧(1≤x∧x≤256)∧1≤y∧y≤256)∨((kindI s'≠4∧kindI s'≠1∧kindI s' < 4)∧1≤x∧x≤256):=by
      rcases layOk_cases hl with ⟨-,h,h1,h2⟩|⟨-,h,h1,h2⟩|⟨-,h,h1,h2⟩|⟨-,h,h1,h2⟩|⟨-,h,h1,h2⟩ <;> simp only [] at h h1 h2 <;> omega
     clear el hl hw hjl
     rcases hcase with h4|⟨h4,hx,hy⟩|⟨⟨h4,h5,h6⟩,hx⟩
     ·have HF:Hid (t++⟨#[32]⟩++s'=joinW (wrL d ls (j+1))):=by
       show _=_
       rw [HN.out,← HJ0.out]
       unfold lyW
       simp [h4]
      have m4:(s'.toList != [115,107,105,112])=false:=by show (!_)=_;rw [k4,decide_eq_true h4];rfl
      rw [decide_eq_true h4] at k4
      rw [decide_eq_false (by omega)] at k1
      clear h4
      go_wp2
      go_roundg (n2 - (j+1))
      case measure=>omega
      case rel=>exact ⟨j+1,_,by omega,rfl,rfl,by first|rfl|simp,HF,HBn.out _ (up_alloc _ _)⟩
     ·have hx5:(dgB x).size≤5:=by rw [size_list];exact (dg_ok (by omega)).2.2
      have hy5:(dgB y).size≤5:=by rw [size_list];exact (dg_ok (by omega)).2.2
      have HF:Hid (t++⟨#[32]⟩++s'++⟨#[32]⟩++dgB x++⟨#[32]⟩++dgB y=joinW (wrL d ls (j+1))):=by
       show _=_
       rw [HN.out,← HJ2.out]
       unfold lyW
       simp [h4]
      have m4:(s'.toList != [115,107,105,112])=true:=by show (!_)=_;rw [k4,decide_eq_false (by omega)];rfl
      rw [decide_eq_false (by omega)] at k4
      rw [decide_eq_true h4] at k1
      have ht5:(t++⟨#[32]⟩++s'++⟨#[32]⟩++dgB x).size≤412:=by rw [ByteArray.size_append];omega
      have ht6:(t++⟨#[32]⟩++s'++⟨#[32]⟩++dgB x++⟨#[32]⟩).size≤413:=by rw [ByteArray.size_append];omega
      clear h4
      go_wp2_with fail
      generalize hW2:World.alloc _ _=W2
      have hB2:Below wr.heap.size wr W2:=by rw [← hW2];exact up_alloc wr _
      obtain ⟨e0,e1,e2⟩:W2.cell? ⟨wr.heap.size,0,none⟩=some (.string s')∧W2.cell? ⟨wr.heap.size,1,none⟩=some (.int .i64 x)∧W2.cell? ⟨wr.heap.size,2,none⟩=some (.int .i64 y):=by rw [← hW2];simp [go_sem]
      clear hW2
      refine (Rf.num_any x (by omega) W2).mono ?_
      rintro e w5 ⟨rfl,hB5⟩
      replace e0:=still_cell hB5 e0
      replace e1:=still_cell hB5 e1
      replace e2:=still_cell hB5 e2
      have ke:=cell_size e0
      have HB5:Hid (Below wr.heap.size wr w5):=bstep hB2 hB5
      clear hB2 hB5
      go_wp2_with fail
      refine (Rf.num_any y (by omega) w5).mono ?_
      rintro e w6 ⟨rfl,hB6⟩
      have HB6:Hid (Below wa.heap.size wa w6):=HBn.out _ (bstep HB5.out hB6)
      clear hB6
      go_wp2
      go_roundg (n2 - (j+1))
      case measure=>omega
      case rel=>exact ⟨j+1,_,by omega,rfl,rfl,by first|rfl|simp,HF,HB6⟩
     ·have hx5:(dgB x).size≤5:=by rw [size_list];exact (dg_ok (by omega)).2.2
      have HF:Hid (t++⟨#[32]⟩++s'++⟨#[32]⟩++dgB x=joinW (wrL d ls (j+1))):=by
       show _=_
       rw [HN.out,← HJ1.out]
       unfold lyW
       simp [h5,h6]
      have m4:(s'.toList != [115,107,105,112])=true:=by show (!_)=_;rw [k4,decide_eq_false h4];rfl
      rw [decide_eq_false h4] at k4
      rw [decide_eq_false h5] at k1
      clear h4 h5 h6
      go_wp2_with fail
      generalize hW2:World.alloc _ _=W2
      have hB2:Below wr.heap.size wr W2:=by rw [← hW2];exact up_alloc wr _
      obtain ⟨e0,e1,e2⟩:W2.cell? ⟨wr.heap.size,0,none⟩=some (.string s')∧W2.cell? ⟨wr.heap.size,1,none⟩=some (.int .i64 x)∧W2.cell? ⟨wr.heap.size,2,none⟩=some (.int .i64 y):=by rw [← hW2];simp [go_sem]
      clear hW2
      refine (Rf.num_any x (by omega) W2).mono ?_
      rintro e w5 ⟨rfl,hB5⟩
      replace e0:=still_cell hB5 e0
      have ke:=cell_size e0
      have HB5:Hid (Below wa.heap.size wa w5):=HBn.out _ (bstep hB2 hB5)
      clear hB2 hB5
      go_wp2
      go_roundg (n2 - (j+1))
      case measure=>omega
      case rel=>exact ⟨j+1,_,by omega,rfl,rfl,by first|rfl|simp,HF,HB5⟩
    ·obtain rfl:j=n2:=by omega
     have hfin:t=X:=by
      rw [Ht.out,← HT.out]
      unfold wrL netT netW
      rw [if_pos HE.out,List.take_of_length_le (by rw [HK.out.2.1];exact Nat.le_refl _)]
     subst hfin
     go_wp2
     go_ret
     exact ⟨rfl,bstep HW.out.2 HB.out⟩
theorem nS_small {d:List Int} {ls:List Ly} (k:Nat) (hk:k < (nS d ls).length):(shA (nS d ls) k).length≤9223372036854775807:=by
 by_cases h:nE d ls=0
 ·obtain ⟨S,hf,hs,ht⟩:=net_good h
  obtain ⟨hd,hl⟩:=(formB_iff d ls).1 hf
  rw [(nE_ok hf hs ht).2.1] at hk ⊢
  have:=(shN_in hd hl (Nat.le_refl _) hs k (by rw [← shN_len hs];exact hk)).smal.1
  omega
 ·rw [(nE_bad h).1] at hk
  simp at hk
theorem nS_len (d:List Int) (ls:List Ly):(nS d ls).length≤ls.length+1:=by
 by_cases h:nE d ls=0
 ·obtain ⟨S,hf,hs,ht⟩:=net_good h
  rw [(nE_ok hf hs ht).2.1,shN_len hs]
  exact Nat.le_refl _
 ·rw [(nE_bad h).1]
  simp
theorem mshapes_walk (w:World) (hT:Hid (Tz w)) (hK:Hid (Kz w)) (hP:Hid (Pz w)) (z:Nat→Int) (n c:Nat) (p:Option Addr) (ls:List Ly) (n2 c2:Nat) (p2:Option Addr) (h1:RowN .i64 w p n c z) (h2:LayN w p2 n2 c2 ls):
  Calls Tryz.prog 5 #[.agg #[.slice p n c,.slice p2 n2 c2]] w fun e w'=>e = .returned (.bool true)∧Below w.heap.size w w':=by
 haveI:Nonempty World:=⟨w⟩
 obtain ⟨d,hdl,hd⟩:∃ d:List Int,d.length=n∧Nums .i64 w (.slice p n c) d:=⟨nlst n z,nlst_len n z,h1.nums⟩
 have HN:Hid (d.length=n∧Nums .i64 w (.slice p n c) d∧LyR 0 w p2 n2 ls):=⟨hdl,hd,h2.2.2⟩
 clear h1 h2 hd hdl
 go_enter Tryz.func5,Tryz.ntmps5
 go_wp2_with fail
 generalize hW0:World.alloc _ _=W0
 have HB0:Hid (Below w.heap.size w W0):=by rw [← hW0];exact up_alloc w _
 obtain ⟨g0,g1⟩:W0.cell? ⟨w.heap.size,0,none⟩=some (.slice p n c)∧W0.cell? ⟨w.heap.size,1,none⟩=some (.slice p2 n2 c2):=by rw [← hW0];simp [go_sem]
 clear hW0
 refine (awake12_any W0 (Hid.up_tz hT HB0.out) (Hid.up_kz hK HB0.out) (Hid.up_pz hP HB0.out)).mono ?_
 rintro e w1 ⟨rfl,hB⟩
 have HB1:Hid (Below w.heap.size w w1):=bstep HB0.out hB
 replace g0:=still_cell hB g0
 replace g1:=still_cell hB g1
 have kg:=cell_size g0
 clear hB HB0
 by_cases hn:10 < n
 ·have hn':(10:Int) < (n:Int):=by omega
  go_wp2
  go_ret
  exact ⟨rfl,HB1.out⟩
 have hn':(n:Int)≤10:=by omega
 by_cases hm:40 < n2
 ·have hm':(40:Int) < (n2:Int):=by omega
  go_wp2
  go_ret
  exact ⟨rfl,HB1.out⟩
 have hm':(n2:Int)≤40:=by omega
 have hm3:n2≤40:=by omega
 go_wp2_with fail
 obtain ⟨E,eE⟩:∃ E,nE d ls=E:=⟨_,rfl⟩
 obtain ⟨P,eP⟩:∃ P,nP d ls=P:=⟨_,rfl⟩
 obtain ⟨S,eS⟩:∃ S,nS d ls=S:=⟨_,rfl⟩
 obtain ⟨L,eL⟩:∃ L,S.length=L:=⟨_,rfl⟩
 have hL41:(L:Int)≤41:=by
  have h:=nS_len d ls
  rw [eS,eL,HN.out.2.2.1] at h
  omega
 have HIN:Hid (∀ k,k < L→(shA S k).length≤9223372036854775807):=fun k hk=>by
  have:=nS_small (d:=d) (ls:=ls) k (by rw [eS,eL];exact hk)
  rw [eS] at this
  exact this
 have cs:=Shapes_any p p2 n c n2 c2 d ls (by omega) w1 (Hid.up_kz hK HB1.out) (HN.out.2.1.up HB1.out) (HN.out.2.2.up HB1.out)
 rw [eE,eS,eL] at cs
 refine cs.mono ?_
 rintro e w2 ⟨ps,css,rfl,hoS,hB⟩
 obtain ⟨ps',cs',es',hrd⟩:=hoS.rd
 rw [eL] at es' hrd
 cases es'
 have HR2:Hid (RdS w2 ps L S):=hrd
 have HB2:Hid (Below w.heap.size w w2):=bstep HB1.out hB
 replace g0:=still_cell hB g0
 replace g1:=still_cell hB g1
 replace kg:=cell_size g0
 clear hB HB1 cs hoS hrd
 go_wp2_with fail
 have cp:=Params_any p p2 n c n2 c2 d ls (by omega) w2 (Hid.up_kz hK HB2.out) (HN.out.2.1.up HB2.out) (HN.out.2.2.up HB2.out)
 rw [eE,eP] at cp
 refine cp.mono ?_
 rintro e w3 ⟨rfl,hB⟩
 have HR3:Hid (RdS w3 ps L S):=HR2.out.up hB
 have HB3:Hid (Below w.heap.size w w3):=bstep HB2.out hB
 replace g0:=still_cell hB g0
 replace g1:=still_cell hB g1
 replace kg:=cell_size g0
 clear hB HB2 HR2 cp
 go_wp2_with fail
 refine (net_any p p2 n c n2 c2 ls (by omega) w3 (HN.out.2.2.up HB3.out)).mono ?_
 rintro e w4 ⟨p3,c3,rfl,hl4,hB⟩
 obtain ⟨p4,c4,e4,hl5⟩:=hl4.rd
 rw [HN.out.2.2.1] at e4 hl5
 cases e4
 have HL4:Hid (LyR 0 w4 p3 n2 ls):=hl5
 have HR4:Hid (RdS w4 ps L S):=HR3.out.up hB
 have HB4:Hid (Below w.heap.size w w4):=bstep HB3.out hB
 replace g0:=still_cell hB g0
 replace g1:=still_cell hB g1
 replace kg:=cell_size g0
 clear hB HB3 HR3 hl4 hl5
 go_wp2_with fail
 refine (rshapes_any p p3 n c n2 c3 d ls (by omega) w4 (HN.out.2.1.up HB4.out) HL4.out).mono ?_
 rintro e w5 ⟨⟨v5,rfl,hv5⟩,hB⟩
 rw [eS] at hv5
 obtain ⟨pr,cr_,rfl,hrd5⟩:=hv5.rd
 rw [eL] at hrd5
 rw [eE,eP,eL]
 have HS5:Hid (RdS w5 ps L S∧RdS w5 pr L S):=⟨HR4.out.up hB,hrd5⟩
 have HB5:Hid (Below w.heap.size w w5):=bstep HB4.out hB
 replace g0:=still_cell hB g0
 replace g1:=still_cell hB g1
 replace kg:=cell_size g0
 clear hB HB4 HR4 HL4 hv5 hrd5 eE eP eS eL
 obtain ⟨X,eX⟩:∃ X,netT d ls=X:=⟨_,rfl⟩
 have ct:Hid (∀ W,Below w.heap.size w W→Calls Tryz.prog 14 #[.agg #[.slice p n c,.slice p2 n2 c2]] W fun e w'=>e = .returned (.string X)∧Below W.heap.size W w'):=fun W hW=>by
  have:=Text_any p p2 n c n2 c2 d ls (by omega) W (Hid.up_kz hK hW) (Hid.up_pz hP hW) (HN.out.2.1.up hW) (HN.out.2.2.up hW)
  rw [eX] at this
  exact this
 have cr:Hid (∀ v W,Below w.heap.size w W→NetV (.slice p n c) n2 ls v W→Calls Tryz.prog 18 #[v] W fun e w'=>e = .returned (.string X)∧Below W.heap.size W w'):=fun v W hW h=>by
  obtain ⟨p6,c6,B6,rfl,h6⟩:=h
  obtain ⟨p7,c7,e7,h7⟩:=h6.rd
  rw [HN.out.2.2.1] at e7 h7
  cases e7
  have:=rtext_any p p6 n c n2 c6 d ls (by omega) W (HN.out.2.1.up hW) h7
  rw [eX] at this
  exact this
 have y1:(E != E)=false:=by simp
 have y2:(P != P)=false:=by simp
 have y3:((L:Int) != (L:Int))=false:=by simp
 have y4:(X.toList != X.toList)=false:=by simp
 clear eX
 go_wp2
 refine rel [⟨24,64,NetV (.slice p n c) n2 ls⟩] 27 84 (by kernel_rfl) rfl rfl (by kernel_rfl) (by rfl) ?_ ?_
 ·intro e he v W W' h hb
  simp only [List.mem_cons,List.not_mem_nil,or_false] at he
  subst he
  exact NetV.up h hb
 apply Exists.intro
 refine ⟨fun x=>?_,?_,?_⟩
 ·simp only [List.take_succ_cons,List.take_zero]
  iterate 22
   refine relQuiet rfl rfl ?_
   apply Exists.intro
   refine ⟨fun F hF hf K hK=>?_,?_⟩
   ·have hFc:=hF.cell
    have hFf:=hF.frozen
    go_big_quiet_op
    first|exact hK|(apply Exists.intro;refine ⟨fun _=>?_,?_⟩;(· fail);exact hK)
   (try simp only [Act.put,List.setIfInBounds_toArray,List.set_cons_zero,List.set_cons_succ])
  refine relQuiet rfl rfl ?_
  apply Exists.intro
  refine ⟨fun F hF hf K hK=>?_,?_⟩
  ·have hFc:=hF.cell
   have hFf:=hF.frozen
   go_big_quiet_op
   first|exact hK|(apply Exists.intro;refine ⟨fun _=>?_,?_⟩;(· exact hF.call (ct.out _ (bstep HB5.out (hF.below _))));exact hK)
  (try simp only [Act.put,List.setIfInBounds_toArray,List.set_cons_zero,List.set_cons_succ])
  refine relQuiet rfl rfl ?_
  apply Exists.intro
  refine ⟨fun F hF hf K hK=>?_,?_⟩
  ·have hFc:=hF.cell
   have hFf:=hF.frozen
   go_big_quiet_op
   first|exact hK|(apply Exists.intro;refine ⟨fun _=>?_,?_⟩;(· fail);exact hK)
  (try simp only [Act.put,List.setIfInBounds_toArray,List.set_cons_zero,List.set_cons_succ])
  refine relTold rfl rfl ?_ ?_
  ·intro F hF hf d
   have hFc:=hF.cell
   have hFf:=hF.frozen
   simp [yieldsR,yieldsUpon,go_sem]
   refine (net_any p p2 n c n2 c2 ls (by omega) (F d) (HN.out.2.2.up (bstep HB5.out (hF.below d)))).mono ?_
   rintro e' w8 ⟨p3,c3,rfl,h8,hB8⟩
   exact ⟨_,rfl,⟨p3,c3,_,rfl,h8⟩,hB8⟩
  (try simp only [Act.put,List.setIfInBounds_toArray,List.set_cons_zero,List.set_cons_succ])
  refine relQuiet rfl rfl ?_
  apply Exists.intro
  refine ⟨fun F hF hf K hK=>?_,?_⟩
  ·have hFc:=hF.cell
   have hFf:=hF.frozen
   have h4:∀ d,NetV (.slice p n c) n2 ls (x 24) (F d):=fun d=>hf _ List.mem_cons_self (by rfl) d
   go_big_quiet_op
   first|exact hK|(apply Exists.intro;refine ⟨fun _=>?_,?_⟩;(· exact hF.call (cr.out _ _ (bstep HB5.out (hF.below _)) (h4 _)));exact hK)
  (try simp only [Act.put,List.setIfInBounds_toArray,List.set_cons_zero,List.set_cons_succ])
  refine relQuiet rfl rfl ?_
  apply Exists.intro
  refine ⟨fun F hF hf K hK=>?_,?_⟩
  ·have hFc:=hF.cell
   have hFf:=hF.frozen
   go_big_quiet_op
   first|exact hK|(apply Exists.intro;refine ⟨fun _=>?_,?_⟩;(· fail);exact hK)
  (try simp only [Act.put,List.setIfInBounds_toArray,List.set_cons_zero,List.set_cons_succ])
  refine relEnd ?_
  exact rfl
 ·exact fun x=>rfl
 ·intro w9 xs hB9 hf
  simp only [List.drop_succ_cons,List.drop_zero]
  have HB9:Hid (Below w.heap.size w w9):=bstep HB5.out hB9
  have HS9:Hid (RdS w9 ps L S∧RdS w9 pr L S):=⟨HS5.out.1.up hB9,HS5.out.2.up hB9⟩
  clear hf hB9 HB5 HS5 ct cr g0 g1 kg
  go_wp2_with fail
  go_loopg [10] L (fun gg v wr=>∃ (k:Nat),k≤L∧gg=L - k∧v = .int .i64 (k:Int)∧Hid (Below w9.heap.size w9 wr))
  case atStart=>exact ⟨0,by omega,by omega,rfl,Below.refl _ _⟩
  case round=>
   obtain ⟨k,hk,hg,rfl,HB⟩:=hrel
   by_cases hkn:k < L
   ·have hk':(k:Int) < (L:Int):=by omega
    obtain ⟨q1,o1,a1,b1,c1,rfl,s1,m1⟩:=(HS9.out.1.up HB.out).2 k hkn
    obtain ⟨q2,o2,a2,b2,c2_,rfl,s2,m2⟩:=(HS9.out.2.up HB.out).2 k hkn
    have ks1:=cell_size s1
    have ks2:=cell_size s2
    have cs:Hid (∀ W,Below wr.heap.size wr W→Calls Tryz.prog 13 #[.slice a1 b1 c1,.slice a2 b2 c2_] W fun e w'=>e = .returned (.bool true)∧Below W.heap.size W w'):=fun W hW=>by
     have:=rsame_any (.slice a1 b1 c1) (.slice a2 b2 c2_) (shA S k) (shA S k) (HIN.out k hkn) W (m1.up hW) (m2.up hW)
     rw [decide_eq_true rfl] at this
     refine this.mono ?_
     rintro e w' ⟨h,dr,rfl⟩
     exact ⟨h,below_drew (Below.refl _ _) dr⟩
    clear m1 m2
    go_wp2
    refine rel [] 9 84 (by kernel_rfl) rfl rfl (by kernel_rfl) (by rfl) ?_ ?_
    ·intro e he
     cases he
    apply Exists.intro
    refine ⟨fun x=>?_,?_,?_⟩
    ·simp only [List.take_succ_cons,List.take_zero]
     iterate 8
      refine relQuiet rfl rfl ?_
      apply Exists.intro
      refine ⟨fun F hF hf K hK=>?_,?_⟩
      ·have hFc:=hF.cell
       have hFf:=hF.frozen
       go_big_quiet_op
       first|exact hK|(apply Exists.intro;refine ⟨fun _=>?_,?_⟩;(· fail);exact hK)
      (try simp only [Act.put,List.setIfInBounds_toArray,List.set_cons_zero,List.set_cons_succ])
     refine relQuiet rfl rfl ?_
     apply Exists.intro
     refine ⟨fun F hF hf K hK=>?_,?_⟩
     ·have hFc:=hF.cell
      have hFf:=hF.frozen
      go_big_quiet_op
      first|exact hK|(apply Exists.intro;refine ⟨fun _=>?_,?_⟩;(· exact hF.call (cs.out _ (hF.below _)));exact hK)
     (try simp only [Act.put,List.setIfInBounds_toArray,List.set_cons_zero,List.set_cons_succ])
     refine relEnd ?_
     exact rfl
    ·exact fun x=>rfl
    ·intro w7 xs7 hB7 hf7
     simp only [List.drop_succ_cons,List.drop_zero]
     have HB7:Hid (Below w9.heap.size w9 w7):=bstep HB.out hB7
     clear hf7 hB7 cs
     go_wp2
     go_roundg (L - (k+1))
     case measure=>omega
     case rel=>exact ⟨k+1,by omega,rfl,by first|rfl|simp,HB7⟩
   ·obtain rfl:k=L:=by omega
    go_wp2
    go_ret
    exact ⟨rfl,bstep HB9.out HB.out⟩
end Go.Proofs.YtiampagapgjedaaGreatDoor.Wd
namespace Go.Proofs.YtiampagapgjedaaGreatDoor.Wd
open Go.RowKit
theorem kind_cells {H:Type} {enc:TypeId×Value→H} {P:Program} {w:World} {base:Nat} {sp:Nat→Bool} {held:Bool} {fuel:Nat} {e q:TypeId} {f0 f1 f2:Field} {ds:List Value} {bs:List UInt8} {a b c:Int} {p:List MemPlace}
  (he:P.underlying e=some (.struct #[f0,f1,f2])) (ce:P.cellsOf e=4) (o0:f0.offset=0) (o1:f1.offset=1) (o2:f2.offset=2) (c0:P.cellsOf f0.type=1) (c1:P.cellsOf f1.type=1) (c2:P.cellsOf f2.type=2)
  (u0:P.underlying f0.type=some .string) (u1:P.underlying f1.type=some (.int .i64)) (u2:P.underlying f2.type=some (.array 2 q)) (uq:P.underlying q=some (.int .i64)) (cq:P.cellsOf q=1)
  (h:DataW.trod enc P w base sp held fuel e ds=some (.agg [.lit (.string bs),.lit (.int .i64 a),.agg [.lit (.int .i64 b),.lit (.int .i64 c)]],p)):ds = [.string ⟨bs.toArray⟩,.int .i64 a,.int .i64 b,.int .i64 c]:=by
 obtain ⟨ys,n,_,hx,hl,hyl,hf⟩:=DataW.trod_struct he h
 rw [ce] at hl
 have hxs:=(Prod.mk.inj hx).1
 simp only [DataW.agg.injEq] at hxs
 match ys,hyl with
 | [y0,y1,y2],_=>
  simp only [List.map_cons,List.map_nil,List.cons.injEq,and_true] at hxs
  obtain ⟨h0,h1,h2⟩:=hxs
  have t0:=hf 0 f0 rfl
  have t1:=hf 1 f1 rfl
  have t2:=hf 2 f2 rfl
  match ds,hl with
  | [v0,v1,v2,v3],_=>
   simp [o0,c0] at t0
   simp [o1,c1] at t1
   simp [o2,c2] at t2
   obtain ⟨z0,e0,x0,_⟩:=DataW.trod_string u0 t0
   obtain ⟨z1,e1,x1,_⟩:=DataW.trod_int u1 t1
   obtain ⟨y20,y21⟩:=y2
   simp only [] at h2
   subst h2
   have e2:=Lib.cells_of_tab (zs:=[b,c]) u2 uq cq c2 t2
   simp only [List.cons.injEq,and_true,List.map_cons,List.map_nil] at e0 e1 e2
   obtain ⟨e2,e3⟩:=e2
   subst e0 e1 e2 e3
   rw [x0] at h0
   rw [x1] at h1
   simp only [DataW.lit.injEq,Lit.string.injEq,Lit.int.injEq,true_and] at h0 h1
   subst h1
   rw [h0]
theorem cut20 {α:Type} (l:List α) (h:l.length=20):l=(l.drop 0).take 4++((l.drop 4).take 4++((l.drop 8).take 4++((l.drop 12).take 4++(l.drop 16).take 4))):=by
 have k:∀ n,l.drop n=(l.drop n).take 4++l.drop (n+4):=fun n=>by
  have:=(List.take_append_drop 4 (l.drop n)).symm
  rw [List.drop_drop] at this
  exact this
 conv=>lhs;rw [← List.drop_zero (l:=l),k 0,k 4,k 8,k 12,k 16,List.drop_eq_nil_of_le (show l.length≤16+4 by omega),List.append_nil]
theorem kinds_cells {H:Type} {enc:TypeId×Value→H} {P:Program} {w:World} {base:Nat} {sp:Nat→Bool} {held:Bool} {fuel:Nat} {t e q:TypeId} {f0 f1 f2:Field} {cs:List Value} {p:List MemPlace}
  (ht:P.underlying t=some (.array 5 e)) (ct:P.cellsOf t=20)
  (he:P.underlying e=some (.struct #[f0,f1,f2])) (ce:P.cellsOf e=4) (o0:f0.offset=0) (o1:f1.offset=1) (o2:f2.offset=2) (c0:P.cellsOf f0.type=1) (c1:P.cellsOf f1.type=1) (c2:P.cellsOf f2.type=2)
  (u0:P.underlying f0.type=some .string) (u1:P.underlying f1.type=some (.int .i64)) (u2:P.underlying f2.type=some (.array 2 q)) (uq:P.underlying q=some (.int .i64)) (cq:P.cellsOf q=1)
  (h:DataW.trod enc P w base sp held fuel t cs=some (Rows.laid_carousel_model_kinds,p)):cs=kArr.toList:=by
 cases fuel with
 | zero=>simp [DataW.trod] at h
 | succ fuel=>
  simp only [DataW.trod,ht,ce,ct] at h
  split at h
  ·rename_i hl
   obtain ⟨xs,hm,hx⟩:=Option.map_eq_some_iff.1 h
   have hxs:=(Prod.mk.inj hx).1
   unfold Rows.laid_carousel_model_kinds at hxs
   simp only [DataW.agg.injEq] at hxs
   have hxl:xs.length=5:=by simpa using Lib.mapM_length hm
   have g:=fun i (hi:i < 5)=>Lib.mapM_at hm i i (by simp [hi])
   obtain ⟨b0,hb0,g0⟩:=g 0 (by omega)
   obtain ⟨b1,hb1,g1⟩:=g 1 (by omega)
   obtain ⟨b2,hb2,g2⟩:=g 2 (by omega)
   obtain ⟨b3,hb3,g3⟩:=g 3 (by omega)
   obtain ⟨b4,hb4,g4⟩:=g 4 (by omega)
   match xs,hxl with
   | [(d0,q0),(d1,q1),(d2,q2),(d3,q3),(d4,q4)],_=>
    simp only [List.map_cons,List.map_nil,List.cons.injEq,and_true] at hxs
    obtain ⟨rfl,rfl,rfl,rfl,rfl⟩:=hxs
    simp at hb0 hb1 hb2 hb3 hb4
    subst hb0 hb1 hb2 hb3 hb4
    have r0:=kind_cells he ce o0 o1 o2 c0 c1 c2 u0 u1 u2 uq cq g0
    have r1:=kind_cells he ce o0 o1 o2 c0 c1 c2 u0 u1 u2 uq cq g1
    have r2:=kind_cells he ce o0 o1 o2 c0 c1 c2 u0 u1 u2 uq cq g2
    have r3:=kind_cells he ce o0 o1 o2 c0 c1 c2 u0 u1 u2 uq cq g3
    have r4:=kind_cells he ce o0 o1 o2 c0 c1 c2 u0 u1 u2 uq cq g4
    rw [cut20 cs (by omega)]
    rw [show (List.drop 0 cs).take 4=_ from r0,show (List.drop 4 cs).take 4=_ from r1,show (List.drop 8 cs).take 4=_ from r2,show (List.drop 12 cs).take 4=_ from r3,show (List.drop 16 cs).take 4=_ from r4]
    rfl
  ·cases h
theorem kz_var {W : World} (h : W.var? Tryz.prog "carousel/model.kinds" = some kArr) : Kz W := by
 have hc:=World.var?_cell (g:=0) (by kernel_rfl) h
 intro i hi
 have e:∀ j,j < 20→kArr[j]?=kArr.toList[j]?:=fun j _=>by simp
 rcases (show i=0∨i=1∨i=2∨i=3∨i=4 by omega) with rfl|rfl|rfl|rfl|rfl
 ·exact ⟨(hc 0).trans rfl,(hc 1).trans rfl,(hc 2).trans rfl,(hc 3).trans rfl⟩
 ·exact ⟨(hc 4).trans rfl,(hc 5).trans rfl,(hc 6).trans rfl,(hc 7).trans rfl⟩
 ·exact ⟨(hc 8).trans rfl,(hc 9).trans rfl,(hc 10).trans rfl,(hc 11).trans rfl⟩
 ·exact ⟨(hc 12).trans rfl,(hc 13).trans rfl,(hc 14).trans rfl,(hc 15).trans rfl⟩
 ·exact ⟨(hc 16).trans rfl,(hc 17).trans rfl,(hc 18).trans rfl,(hc 19).trans rfl⟩
end Go.Proofs.YtiampagapgjedaaGreatDoor.Wd
