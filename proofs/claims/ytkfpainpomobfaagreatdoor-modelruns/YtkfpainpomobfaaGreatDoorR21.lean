/- The contracts of the library functions t -/
import Derived.Lib.SmallJoins
import Derived.Lib.AppendIntMem
import Derived.Test.YtkfpainpomobfaaGreatDoorR15
import Derived.Deep.Slices
import Derived.ChangeSame
set_option linter.unusedVariables false
set_option linter.unusedSimpArgs false
set_option maxHeartbeats 16000000
set_option maxRecDepth 16000
namespace Go.Proofs
open Go.Shelf
def Tryz.laysM171_ren:Go.Shelf.Ren:=⟨fun|171=>53|243=>81|246=>111|283=>139|284=>140|285=>141|286=>142|129=>169|317=>168|318=>170|319=>171|320=>172|337=>204|338=>205|n=>n,fun|3=>3|9=>9|2=>2|4=>4|171=>190|0=>0|53=>162|37=>145|5=>5|173=>193|212=>226|51=>227|20=>20|213=>228|46=>185|232=>256|233=>257|n=>n,fun|17=>1|18=>5|19=>6|n=>n⟩
theorem Tryz.laysM171:Go.Proofs.LaysM.n171 Tryz.prog Tryz.laysM171_ren:={
 mixed:=by kernel_rfl
 f129:=Tryz.func169.trans (congrArg some (by kernel_rfl))
 f171:=Tryz.func53.trans (congrArg some (by kernel_rfl))
 f243:=Tryz.func81.trans (congrArg some (by kernel_rfl))
 f246:=Tryz.func111.trans (congrArg some (by kernel_rfl))
 f283:=Tryz.func139.trans (congrArg some (by kernel_rfl))
 f284:=Tryz.func140.trans (congrArg some (by kernel_rfl))
 f285:=Tryz.func141.trans (congrArg some (by kernel_rfl))
 f286:=Tryz.func142.trans (congrArg some (by kernel_rfl))
 f317:=Tryz.func168.trans (congrArg some (by kernel_rfl))
 f318:=Tryz.func170.trans (congrArg some (by kernel_rfl))
 f319:=Tryz.func171.trans (congrArg some (by kernel_rfl))
 f320:=Tryz.func172.trans (congrArg some (by kernel_rfl))
 f337:=Tryz.func204.trans (congrArg some (by kernel_rfl))
 f338:=Tryz.func205.trans (congrArg some (by kernel_rfl))
 t0:=Tryz.underlying0
 a0:=Tryz.isAgg0
 z0:=Tryz.sizeOf0
 v0:=Tryz.zeroValue0
 t2:=Tryz.underlying2
 a2:=Tryz.isAgg2
 z2:=Tryz.sizeOf2
 v2:=Tryz.zeroValue2
 t3:=Tryz.underlying3
 a3:=Tryz.isAgg3
 z3:=Tryz.sizeOf3
 v3:=Tryz.zeroValue3
 t4:=Tryz.underlying4
 a4:=Tryz.isAgg4
 z4:=Tryz.sizeOf4
 v4:=Tryz.zeroValue4
 t5:=Tryz.underlying5
 a5:=Tryz.isAgg5
 z5:=Tryz.sizeOf5
 v5:=Tryz.zeroValue5
 t9:=Tryz.underlying9
 a9:=Tryz.isAgg9
 z9:=Tryz.sizeOf9
 v9:=Tryz.zeroValue9
 t20:=Tryz.underlying20
 a20:=Tryz.isAgg20
 z20:=Tryz.sizeOf20
 v20:=Tryz.zeroValue20
 t37:=Tryz.underlying145
 a37:=Tryz.isAgg145
 z37:=Tryz.sizeOf145
 v37:=Tryz.zeroValue145
 t46:=Tryz.underlying185
 a46:=Tryz.isAgg185
 z46:=Tryz.sizeOf185
 v46:=Tryz.zeroValue185
 t51:=Tryz.underlying227
 a51:=Tryz.isAgg227
 z51:=Tryz.sizeOf227
 v51:=Tryz.zeroValue227
 t53:=Tryz.underlying162
 a53:=Tryz.isAgg162
 z53:=Tryz.sizeOf162
 v53:=Tryz.zeroValue162
 t171:=Tryz.underlying190
 a171:=Tryz.isAgg190
 z171:=Tryz.sizeOf190
 v171:=Tryz.zeroValue190
 t173:=Tryz.underlying193
 a173:=Tryz.isAgg193
 z173:=Tryz.sizeOf193
 v173:=Tryz.zeroValue193
 t212:=Tryz.underlying226
 a212:=Tryz.isAgg226
 z212:=Tryz.sizeOf226
 v212:=Tryz.zeroValue226
 t213:=Tryz.underlying228
 a213:=Tryz.isAgg228
 z213:=Tryz.sizeOf228
 t232:=Tryz.underlying256
 a232:=Tryz.isAgg256
 z232:=Tryz.sizeOf256
 v232:=Tryz.zeroValue256
 t233:=Tryz.underlying257
 a233:=Tryz.isAgg257
 z233:=Tryz.sizeOf257
 v233:=Tryz.zeroValue257
 g17:=by kernel_rfl
 g18:=by kernel_rfl
 g19:=by kernel_rfl
 i0:=by kernel_rfl
 i2:=by kernel_rfl
 i3:=by kernel_rfl
 i4:=by kernel_rfl
 i5:=by kernel_rfl
 i9:=by kernel_rfl
 i20:=by kernel_rfl
 i37:=by kernel_rfl
 i46:=by kernel_rfl
 i51:=by kernel_rfl
 i53:=by kernel_rfl
 i171:=by kernel_rfl
 i173:=by kernel_rfl
 i212:=by kernel_rfl
 i232:=by kernel_rfl
 i233:=by kernel_rfl
 m17:=by kernel_rfl
 m18:=by kernel_rfl
 m19:=by kernel_rfl }
open Go.RowKit Go.Sort Go.Lib in
theorem Tryz.strconv_Itoa (n : Int) (I : -9223372036854775808 ≤ n) (E : n ≤ 9223372036854775807) (w : World) (A : Lib.TabIs Tryz.prog w "internal/strconv.uint64pow10" .u64 Lib.pow10Tab) :
  Calls Tryz.prog 53 #[.int .i64 n] w fun e H=>e = .returned (.string ⟨(Lib.itoa n).toArray⟩)/\∃ k os,H=grow (w.drewN k) os:=Any.strconv_Itoa Tryz.laysM171 n I E w A
end Go.Proofs
namespace Go.Proofs.YtkfpainpomobfaaGreatDoor.Wd
open Go.RowKit List World Nat
/-- The table of powers, as its variable holds it. -/
def Pz (w : World) : Prop := Lib.TabIs Tryz.prog w "internal/strconv.uint64pow10" .u64 Lib.pow10Tab
theorem Hid.up_pz {w A:World} (h:Hid (Pz w)) (hb:Bw w A):Hid (Pz A):=Joins.tab_stays (g:=1) (by kernel_rfl) h.out hb (Nat.le_refl _)
theorem k_C (x:Int) (H:0<=x/\x<=9999) (w:World) (E:Hid (Pz w)):Calls Tryz.prog 53 #[.int .i64 x] w fun e A=>e = .returned (.string (dgB x))/\Bw w A:=by
 refine (Tryz.strconv_Itoa x (by omega) (by omega) w E.out).mono ?_;rintro e A ⟨rfl,k,os,rfl⟩;refine ⟨?_,Lib.below_grow _ _ (Nat.le_refl _) _ _⟩;unfold dgB Lib.itoa;rw [if_neg (by omega)]
/-- A slice of words of the call's own. -/
def StO (W:World) (B:Nat) (v:Value) (ws:List ByteArray):Prop:=W.ownsRow B 9 1 v ws.length (ws.map Value.string)
theorem t_6:GT Tryz.prog 85 9 1 16:=⟨Tryz.underlying85,by kernel_rfl⟩
theorem StO.up {W W':World} {B:Nat} {v:Value} {A:List ByteArray} (h:StO W B v A) (E:Bw W W'):StO W' B v A:=a_z (S:=[]) h (Only.of E) (by simp)
theorem StO.form {W:World} {B:Nat} {v:Value} {A:List ByteArray} (h:StO W B v A):∃ p n c,v = .slice p n c/\A.length=n:=by
 rcases h.2 with ⟨rfl,I⟩|⟨g,E,H,rfl,_⟩
 ·exact ⟨_,_,_,rfl,I⟩
 ·exact ⟨_,_,_,rfl,rfl⟩
theorem n_K {W:World} {B:Nat} {v:Value} {A:List ByteArray} (h:StO W B v A) (H:B<=W.heap.size) (x:ByteArray):Hid ((W.alloc (.cells #[.string x] 9)).ownsRow B 9 1 v A.length (A.map Value.string))/\Hid ((W.alloc (.cells #[.string x] 9)).heap[W.heap.size]?=some (.cells [Value.string x].toArray 9 (0,0)))/\Hid (∀ y∈[Value.string x],y.oneCell'=true)/\Hid (B<=(W.alloc (.cells #[.string x] 9)).heap.size):=
 ⟨h.up (a_a W _),Array.getElem?_push_size,fun y E=>by simp at E;subst E;rfl,by show _<=_;simp;omega⟩
/-- What stands behind such an append, of a box beside it too. -/
theorem j_u {w W A:World} {B b:Nat} {L M O:Value} {E:List ByteArray} {x:ByteArray} {t:TypeId} (V:t≠9) (H:Below B w W) (I:B<=W.heap.size) (hb:W.heap[b]?=some (.cells #[M,O] t (0,0))) (h:A.ownsRow B 9 1 L (E.length+1) (E.map Value.string++[.string x])) (Z:Only [9] (W.alloc (.cells #[.string x] 9)) A) (J:∀ R,Below B R (W.alloc (.cells #[.string x] 9))->Below B R A):StO A B L (E++[x])/\Below B w A/\A.heap[b]?=some (.cells #[M,O] t (0,0)):=by
 refine ⟨?_,J w (H.alloc I _),?_⟩
 ·unfold StO;rw [length_append,map_append];exact h
 ·exact Z.keep (((a_a W _).block _ (a_k hb)).trans hb) (by simpa using V)
def lyN (l:Ly) (k:Nat):List ByteArray:=(if 0 < k/\0 < b_Z (a_m l.1) then [dgB l.2.1] else [])++(if 1 < k/\1 < b_Z (a_m l.1) then [dgB l.2.2] else [])
theorem n_L (l:Ly) (h:a_m l.1 < 5):lyW l=l.1 :: lyN l 2:=by
 unfold lyW lyN b_Z;rcases (show a_m l.1=0∨a_m l.1=1∨a_m l.1=2∨a_m l.1=3∨a_m l.1=4 by omega) with e|e|e|e|e <;> rw [e] <;> simp
theorem p_G (l:Ly) (k:Nat) (H:k < 2):lyN l (k+1)=lyN l k++(if k < b_Z (a_m l.1) then [dgB (if k=0 then l.2.1 else l.2.2)] else []):=by
 unfold lyN;rcases (show k=0∨k=1 by omega) with rfl|rfl
 ·simp
 ·by_cases A:0 < b_Z (a_m l.1)
  ·simp [A]
  ·have E:¬ 1 < b_Z (a_m l.1):=by omega
   simp [A,E]
theorem r_I (l:Ly) (k:Nat):(lyN l k).length<=2:=by
 unfold lyN
 split <;> split <;> simp
theorem s_3 {d:List Int} (h:InOk d) (k:Nat) (A:k < d.length):1<=d.getD k 0/\d.getD k 0<=1024:=by
 rcases h with ⟨x,rfl,h⟩|⟨x,y,rfl,E,H⟩
 ·obtain rfl:k=0:=by simp at A;omega
  exact h
 ·rcases (show k=0∨k=1 by simp at A;omega) with rfl|rfl
  ·simp;omega
  ·simp;omega
theorem k_D:∀ ls:List Ly,(ls.flatMap lyW).length<=3*ls.length
 | []=>by simp
 | l :: ls=>by
  have:=k_D ls;have A:(lyW l).length<=3:=by unfold lyW;split <;> (try split) <;> simp
  rw [flatMap_cons,length_append,length_cons];omega
theorem n_M (ls:List Ly) (k:Nat) (A:k < ls.length):(ls.take (k+1)).flatMap lyW=(ls.take k).flatMap lyW++lyW (lyA ls k):=by
 rw [take_add_one,getElem?_eq_getElem A,flatMap_append];unfold lyA;rw [getD_eq_getElem?_getD,getElem?_eq_getElem A];simp
theorem p_H (d:List Int) (k:Nat) (A:k < d.length):(d.take (k+1)).map dgB=(d.take k).map dgB++[dgB (d.getD k 0)]:=by
 rw [take_add_one,getElem?_eq_getElem A,map_append,getD_eq_getElem?_getD,getElem?_eq_getElem A];rfl
theorem k_E (K:Nat):∀ (l:List (List UInt8)),(∀ u∈l,u.length<=K)->(Lib.join l [32]).length<=(K+1)*l.length
 | [],_=>by simp [Lib.join]
 | [u],h=>by
  have:=h u (by simp);simp [Lib.join];omega
 | u :: v :: r,h=>by
  have E:=h u (by simp);have H:=k_E K (v :: r) fun x A=>h x (by simp at A ⊢;right;exact A);have e:Lib.join (u :: v :: r) [32]=u++32 :: Lib.join (v :: r) [32]:=by simp [Lib.join,intercalate]
  rw [e,length_append,length_cons,length_cons (a:=u),mul_succ];omega
theorem l_x (u:Nat):Lib.nDigits u<=u+1:=by
 induction u using Nat.strongRecOn with
 | _ u ih=>
  unfold Lib.nDigits
  split
  ·omega
  ·have:=ih (u / 10) (by omega);omega
theorem g_1 {x:Int} (h:0<=x/\x<=9999):(dgB x).data.toList.length<=10000:=by
 have:=l_x x.toNat
 show (Lib.decDigits x.toNat).toArray.toList.length<=_;rw [toList_toArray,Lib.decDigits_length];omega
theorem p_I {d:List Int} {ls:List Ly} (M:InOk d) (R:∀ l∈ls,a_L l):∀ w∈o_K d ls,w.data.toList.length<=10000:=by
 intro w A;unfold o_K at A;simp only [mem_cons,mem_append,mem_map,mem_flatMap] at A;rcases A with rfl|⟨x,O,rfl⟩|⟨l,J,A⟩
 ·decide
 ·obtain ⟨k,L,rfl⟩:=getElem_of_mem O;have:=s_3 M k L;rw [getD_eq_getElem?_getD,getElem?_eq_getElem L] at this;simp only [Option.getD_some] at this;exact g_1 (by omega)
 ·have E:=R l J;rw [n_L l E.1] at A;simp only [mem_cons] at A;rcases A with rfl|A
  ·rcases a_s E with ⟨e,_⟩|⟨e,_⟩|⟨e,_⟩|⟨e,_⟩|⟨e,_⟩ <;> rw [e] <;> decide
  ·unfold lyN at A;rcases a_s E with ⟨-,e,H,I⟩|⟨-,e,H,I⟩|⟨-,e,H,I⟩|⟨-,e,H,I⟩|⟨-,e,H,I⟩ <;> rw [e] at A <;> simp [b_Z] at A
   ·subst A;exact g_1 (by omega)
   ·rcases A with rfl|rfl
    ·exact g_1 (by omega)
    ·exact g_1 (by omega)
   ·subst A;exact g_1 (by omega)
   ·subst A;exact g_1 (by omega)
theorem j_v (p p2:Option Addr) (n c E J:Nat) (d:List Int) (ls:List Ly) (hd:InOk d) (aM:∀ l∈ls,a_L l) (aO:ls.length<=16) (w:World) (hK:Hid (Kz w)) (hP:Hid (Pz w)) (R:Nums .i64 w (.slice p n c) d) (hL:LyR 0 w p2 E ls):
  Calls Tryz.prog 33 #[.agg #[.slice p n c,.slice p2 E J]] w fun e w'=>e = .returned (.string (o_L (o_K d ls)))/\Bw w w':=by
 obtain ⟨r,er⟩:∃ r,o_L (o_K d ls)=r:=⟨_,rfl⟩
 have HR:Hid _:=er;rw [er];obtain ⟨_,_,_,e,HC⟩:=R.lst;cases e;have a6:n<=2:=by rw [<- HC.1];rcases hd with ⟨x,rfl,_⟩|⟨x,y,rfl,_⟩ <;> simp
 have a0:E<=16:=by rw [<- hL.1];exact aO
 have HG:Hid (InOk d/\(∀ l∈ls,a_L l)/\LyR 0 w p2 E ls):=⟨hd,aM,hL⟩
 clear er R hd aM aO hL;go_enter Tryz.func33,Tryz.ntmps33;go_wp2_with fail
 generalize aH:alloc _ _=W0
 have aT:Hid (StO W0 w.heap.size (.slice (some ⟨w.heap.size+1,0,none⟩) 1 1) [kIn]/\Bw w W0/\W0.heap[w.heap.size]?=some (.cells #[.slice p n c,.slice p2 E J] 25 (0,0))):=by
  show _/\_/\_;rw [<- aH];refine ⟨⟨rfl,.inr ⟨w.heap.size+1,1,#[.string kIn],rfl,by omega,?_,Nat.le_refl _,by unfold maxLen;omega,rfl,rfl⟩⟩,by go_grown,?_⟩
  ·rw [show w.heap.size+1=(w.alloc (.cells #[.slice p n c,.slice p2 E J] 25)).heap.size by simp];exact Array.getElem?_push_size
  ·exact ((a_a _ _).block _ (by simp)).trans Array.getElem?_push_size
 clear aH
 go_loopg [3,16] n (fun gg u v wr=>∃ (k:Nat),k<=n/\gg=n - k/\v = .int .i64 (k:Int)/\Hid (StO wr w.heap.size u (kIn :: (d.take k).map dgB)/\Bw w wr/\wr.heap[w.heap.size]?=some (.cells #[.slice p n c,.slice p2 E J] 25 (0,0))))
 case atStart=>exact ⟨0,by omega,by omega,rfl,aT⟩
 case round=>
  obtain ⟨k,hk,hg,rfl,HI⟩:=hrel;obtain ⟨pu,nu,cu,rfl,aj⟩:=HI.1.form;have aY:nu<=3:=by simp at aj;omega
  by_cases aL:k < n
  ·have a7:(k:Int) < (n:Int):=by omega
   have ar:k < d.length:=by rw [HC.1];exact aL
   obtain ⟨q,o,rfl,c0⟩:=(HC.out.up HI.2.1).2 k aL;obtain ⟨x,L⟩:∃ x,d.getD k 0=x:=⟨_,rfl⟩
   have hx:=s_3 HG.1 k ar;rw [L] at c0 hx;have ci:=k_C x (by omega) wr (Hid.up_pz hP HI.2.1);have HT:Hid ((d.take (k+1)).map dgB=(d.take k).map dgB++[dgB x]):=by show _=_;rw [<- L];exact p_H d k ar
   obtain ⟨sx,ad⟩:∃ s,dgB x=s:=⟨_,rfl⟩
   rw [ad] at ci HT;clear hx L ar ad;go_wp2_with fail
   refine ci.mono ?_;rintro e w1 ⟨rfl,ah⟩;clear ci;have H:Hid (StO w1 w.heap.size (.slice pu nu cu) (kIn :: (d.take k).map dgB)/\Bw w w1/\w1.heap[w.heap.size]?=some (.cells #[.slice (some ⟨q,o,none⟩) n c,.slice p2 E J] 25 (0,0))):=⟨HI.1.up ah,a_c HI.2.1 ah,(ah.block _ (a_k HI.2.2)).trans HI.2.2⟩
   obtain ⟨A1,A2,A3,A4⟩:=n_K H.1 H.2.1.size sx;rw [aj] at A1;clear ah HI c0;go_wp2_with (at_builtin;refine a_6 t_6 (by decide) (by decide) rfl (.tmp 20) (.tmp 23) rfl w.heap.size _ _ _ rfl A1.out _ [.string sx] rfl A2.out rfl A3.out (by omega) A4.out ?_;intro v0 w0 H0 O0 B0)
   have HF:Hid (StO w0 w.heap.size v0 (kIn :: (d.take (k+1)).map dgB)/\Bw w w0/\w0.heap[w.heap.size]?=some (.cells #[.slice (some ⟨q,o,none⟩) n c,.slice p2 E J] 25 (0,0))):=by
    have:=j_u (by decide) H.2.1 H.2.1.size H.2.2 (by rw [aj];exact H0.out) O0.out B0.out;rw [HT.out];exact this
   clear A1 A2 A3 A4 H0 O0 B0 H;go_wp2;go_roundg (n - (k+1))
   case measure=>omega
   case rel=>exact ⟨k+1,by omega,rfl,by first|rfl|simp,HF⟩
  ·obtain rfl:k=n:=by omega
   obtain ⟨D,eD⟩:∃ D,d.map dgB=D:=⟨_,rfl⟩
   have H:Hid (StO wr w.heap.size (.slice pu nu cu) (kIn :: D)/\Bw w wr/\wr.heap[w.heap.size]?=some (.cells #[.slice p k c,.slice p2 E J] 25 (0,0))):=by
    have:=HI.out;rw [take_of_length_le (by rw [HC.1];exact Nat.le_refl _),eD] at this;exact this
   have HD:Hid (D.length=k/\D=d.map dgB):=⟨by rw [<- eD,length_map];exact HC.1,eD.symm⟩
   obtain ⟨_,⟨g1,_⟩⟩:=b_4 H.2.2;clear HI eD aj;go_wp2_with fail
   go_loopg [3,29] E (fun gg u v wq=>∃ (j:Nat),j<=E/\gg=E - j/\v = .int .i64 (j:Int)/\Hid (StO wq w.heap.size u ((kIn :: D)++(ls.take j).flatMap lyW)/\Bw w wq/\wq.heap[w.heap.size]?=some (.cells #[.slice p k c,.slice p2 E J] 25 (0,0))))
   case atStart=>exact ⟨0,by omega,by omega,rfl,by simpa using H⟩
   case round=>
    obtain ⟨j,hj,ba,rfl,HJ⟩:=hrel;obtain ⟨pw,nw,cw,rfl,V⟩:=HJ.1.form
    have aZ:nw<=51:=by
     have R:=k_D (ls.take j);have h2:=HD.1;have h3:(ls.take j).length<=j:=by simp;omega
     simp only [length_append,length_cons] at V;omega
    by_cases af:j < E
    ·have a8:(j:Int) < (E:Int):=by omega
     have am:j < ls.length:=by rw [HG.2.2.1];exact af
     obtain ⟨q,o,rfl,y0,y1,y2⟩:=(HG.2.2.up HJ.2.1).2 j af;obtain ⟨l,el⟩:∃ l,lyA ls j=l:=⟨_,rfl⟩
     have an:=HG.2.1 _ (d_p am);have aQ:Hid ((ls.take (j+1)).flatMap lyW=(ls.take j).flatMap lyW++lyW l):=by show _=_;rw [<- el];exact n_M ls j am
     rw [el] at y0 y1 y2 an;obtain ⟨s,a,b⟩:=l;simp only [] at y0 y1 y2;have a9:=a_h y0;have ai:=an.1;have aG:Hid _:=n_L (s,a,b) ai
     have aE:Hid ((0 < b_Z (a_m s)->0<=a/\a<=9999)/\(1 < b_Z (a_m s)->0<=b/\b<=9999)):=by
      rcases a_s an with ⟨-,e,R,h2⟩|⟨-,e,R,h2⟩|⟨-,e,R,h2⟩|⟨-,e,R,h2⟩|⟨-,e,R,h2⟩ <;> simp only [] at e R h2 <;> exact ⟨fun _=>by omega,fun _=>by omega⟩
     have aN:Hid _:=e_v s ai
     have ck:Hid (∀ W,Bw w W->Calls Tryz.prog 49 #[.string s] W fun e w'=>e = .returned (.tuple #[.agg #[.string s,.int .i64 (b_Z (a_m s)),.int .i64 (c_h (a_m s)),.int .i64 (c_R (a_m s))],.bool true])/\Bw W w'):=fun W hW=>by
      have:=f_a s W (Hid.up_kz hK hW);rw [aN.out,decide_eq_true ai] at this;exact this
     have aS:Hid (∀ m,m < 2->lyN (s,a,b) (m+1)=lyN (s,a,b) m++(if m < b_Z (a_m s) then [dgB (if m=0 then a else b)] else [])):=fun m hm=>p_G (s,a,b) m hm;obtain ⟨cn,aJ⟩:∃ cn,b_Z (a_m s)=cn:=⟨_,rfl⟩
     rw [aJ] at ck aE aS;generalize c_h (a_m s)=tA at ck;generalize c_R (a_m s)=tB at ck;clear an ai aN aJ el;go_wp2_with fail
     generalize aC:alloc _ _=W2;have au:Bw wr W2:=by rw [<- aC];exact a_a wr _
     have aB:Hid (W2.heap[wr.heap.size]?=some (.cells #[.string s,.int .i64 a,.int .i64 b] 69 (0,0))):=by
      show _=_;rw [<- aC];exact Array.getElem?_push_size
     refine (ck.out W2 (a_c HJ.2.1 au)).mono ?_;rintro e w3 ⟨rfl,av⟩;have ap:=a_c au av;obtain ⟨W4,ax⟩:∃ W4,w3.alloc (.cells #[.string s,.int .i64 (cn:Int),.int .i64 tA,.int .i64 tB] 110)=W4:=⟨_,rfl⟩
     have aD:Bw w3 W4:=by rw [<- ax];exact a_a w3 _
     have M:=a_c ap aD;have Z:Hid (StO W4 w.heap.size (.slice pw nw cw) ((kIn :: D)++(ls.take j).flatMap lyW)/\Bw w W4/\W4.heap[w.heap.size]?=some (.cells #[.slice p k c,.slice (some ⟨q,o,none⟩) E J] 25 (0,0))):=⟨HJ.1.up M,a_c HJ.2.1 M,(M.block _ (a_k HJ.2.2)).trans HJ.2.2⟩
     have ab:Hid (W4.heap[wr.heap.size]?=some (.cells #[.string s,.int .i64 a,.int .i64 b] 69 (0,0))/\W4.heap[w3.heap.size]?=some (.cells #[.string s,.int .i64 (cn:Int),.int .i64 tA,.int .i64 tB] 110 (0,0))):=⟨((a_c av aD).block _ (a_k aB)).trans aB,by rw [<- ax];exact Array.getElem?_push_size⟩
     obtain ⟨A1,A2,A3,A4⟩:=n_K Z.1 Z.2.1.size s;rw [V] at A1;have aP:Hid (∀ w0,Only [9] (W4.alloc (.cells #[.string s] 9)) w0->w0.heap[wr.heap.size]?=some (.cells #[.string s,.int .i64 a,.int .i64 b] 69 (0,0))/\w0.heap[w3.heap.size]?=some (.cells #[.string s,.int .i64 (cn:Int),.int .i64 tA,.int .i64 tB] 110 (0,0))):=fun w0 ho=>⟨ho.keep (((a_a W4 _).block _ (a_k ab.1)).trans ab.1) (by decide),ho.keep (((a_a W4 _).block _ (a_k ab.2)).trans ab.2) (by decide)⟩
     have k0:W4.cell? ⟨w3.heap.size,0,none⟩=some (.string s):=(i_y ab.2).1;clear au av aD ap M aC aB ck HJ y0 y1 y2 ab;go_wp2_with (at_builtin;refine a_6 t_6 (by decide) (by decide) rfl (.tmp 39) (.tmp 42) rfl w.heap.size _ _ _ rfl A1.out _ [.string s] rfl A2.out rfl A3.out (by omega) A4.out ?_;intro v0 w0 H0 O0 B0;have hX:=aP.out w0 O0.out;obtain ⟨_,⟨z1,_⟩,⟨z2,_⟩⟩:=q_V hX.1)
     have HF:Hid (StO w0 w.heap.size v0 (((kIn :: D)++(ls.take j).flatMap lyW)++[s])/\Bw w w0/\w0.heap[w.heap.size]?=some (.cells #[.slice p k c,.slice (some ⟨q,o,none⟩) E J] 25 (0,0))):=j_u (by decide) Z.2.1 Z.2.1.size Z.2.2 (by rw [V];exact H0.out) O0.out B0.out;have al:Hid _:=hX.2;obtain ⟨A,eb⟩:∃ A,((kIn :: D)++(ls.take j).flatMap lyW)++[s]=A:=⟨_,rfl⟩
     have aw:Hid (A.length<=52/\(kIn :: D)++(ls.take (j+1)).flatMap lyW=A++lyN (s,a,b) 2):=by
      refine ⟨by rw [<- eb,length_append,V];simp;omega,?_⟩;rw [aQ.out,aG.out,<- eb];simp
     rw [eb] at HF;clear hX z1 z2 A1 A2 A3 A4 H0 O0 B0 Z aP k0 eb ax V aQ aG
     go_loopg [3,49] 2 (fun gg u v wr=>∃ (m:Nat),m<=2/\gg=2 - m/\v = .int .i64 (m:Int)/\Hid (StO wr w.heap.size u (A++lyN (s,a,b) m)/\Bw w wr/\wr.heap[w.heap.size]?=some (.cells #[.slice p k c,.slice (some ⟨q,o,none⟩) E J] 25 (0,0)))/\Hid (wr.heap[w3.heap.size]?=some (.cells #[.string s,.int .i64 (cn:Int),.int .i64 tA,.int .i64 tB] 110 (0,0))))
     case atStart=>exact ⟨0,by omega,by omega,rfl,by simpa [lyN] using HF,al⟩
     case round=>
      obtain ⟨m,hm,a5,rfl,HM,aa⟩:=hrel;obtain ⟨pz,nz,cz,rfl,ay⟩:=HM.1.form
      have a1:nz<=54:=by
       have R:=r_I (s,a,b) m;have h2:=aw.1;rw [length_append] at ay;omega
      rcases (show m=2∨m=0∨m=1 by omega) with rfl|O
      ·have aV:Hid (StO wr w.heap.size (.slice pz nz cz) ((kIn :: D)++(ls.take (j+1)).flatMap lyW)/\Bw w wr/\wr.heap[w.heap.size]?=some (.cells #[.slice p k c,.slice (some ⟨q,o,none⟩) E J] 25 (0,0))):=by
        show _/\_;rw [aw.2];exact HM.out
       clear HM aa al HF aw;go_wp2;go_roundg (E - (j+1))
       case measure=>omega
       case rel=>exact ⟨j+1,by omega,rfl,by first|rfl|simp,aV⟩
      have a4:(m:Int) < 2:=by omega
      obtain ⟨x,L⟩:∃ x,(if m=0 then a else b)=x:=⟨_,rfl⟩
      have a2:∀ W,(Instr.index 108 (.agg #[.int .i64 a,.int .i64 b]) (.int .i64 (m:Int))).run Tryz.prog W = .ok (.int .i64 x) W:=by
       intro W;rcases O with rfl|rfl
       ·rw [if_pos rfl] at L;subst L;kernel_rfl
       ·rw [if_neg (by omega)] at L;subst L;kernel_rfl
      have I:=aS.out m (by omega);rw [L] at I;have c1:=(i_y aa.out).2.1;by_cases ak:m < cn
      ·have aF:(m:Int) < (cn:Int):=by omega
       have hx:0<=x/\x<=9999:=by
        rcases O with rfl|rfl
        ·rw [if_pos rfl] at L;subst L;exact aE.1 ak
        ·rw [if_neg (by omega)] at L;subst L;exact aE.2 ak
       rw [if_pos ak] at I;have ci:=k_C x hx wr (Hid.up_pz hP HM.2.1);obtain ⟨sx,ad⟩:∃ s,dgB x=s:=⟨_,rfl⟩
       rw [ad] at ci I;have HT:Hid _:=I;clear I ad hx L O;go_wp2_with fail
       refine ci.mono ?_;rintro e w5 ⟨rfl,ae⟩;have ac:Hid (StO w5 w.heap.size (.slice pz nz cz) (A++lyN (s,a,b) m)/\Bw w w5/\w5.heap[w.heap.size]?=some (.cells #[.slice p k c,.slice (some ⟨q,o,none⟩) E J] 25 (0,0))):=⟨HM.1.up ae,a_c HM.2.1 ae,(ae.block _ (a_k HM.2.2)).trans HM.2.2⟩
       have az:Hid (w5.heap[w3.heap.size]?=some (.cells #[.string s,.int .i64 (cn:Int),.int .i64 tA,.int .i64 tB] 110 (0,0))):=(ae.block _ (a_k aa.out)).trans aa.out;obtain ⟨A1,A2,A3,A4⟩:=n_K ac.1 ac.2.1.size sx;rw [ay] at A1;clear ci ae HM aa c1 al HF;go_wp2_with (at_builtin;refine a_6 t_6 (by decide) (by decide) rfl (.tmp 57) (.tmp 60) rfl w.heap.size _ _ _ rfl A1.out _ [.string sx] rfl A2.out rfl A3.out (by omega) A4.out ?_;intro v6 w6 H0 O0 B0)
       have aA:Hid (StO w6 w.heap.size v6 (A++lyN (s,a,b) (m+1))/\Bw w w6/\w6.heap[w.heap.size]?=some (.cells #[.slice p k c,.slice (some ⟨q,o,none⟩) E J] 25 (0,0))):=by
        have:=j_u (by decide) ac.2.1 ac.2.1.size ac.2.2 (by rw [ay];exact H0.out) O0.out B0.out;show _/\_;rw [HT.out,<- append_assoc];exact this
       have aW:Hid (w6.heap[w3.heap.size]?=some (.cells #[.string s,.int .i64 (cn:Int),.int .i64 tA,.int .i64 tB] 110 (0,0))):=O0.out.keep (((a_a w5 _).block _ (a_k az.out)).trans az.out) (by decide);clear A1 A2 A3 A4 H0 O0 B0 ac az HT;go_wp2;go_roundg (2 - (m+1))
       case measure=>omega
       case rel=>exact ⟨m+1,by omega,rfl,by first|rfl|simp,aA,aW⟩
      ·have aF:(cn:Int)<=(m:Int):=by omega
       rw [if_neg ak,append_nil] at I
       have aA:Hid (StO wr w.heap.size (.slice pz nz cz) (A++lyN (s,a,b) (m+1))/\Bw w wr/\wr.heap[w.heap.size]?=some (.cells #[.slice p k c,.slice (some ⟨q,o,none⟩) E J] 25 (0,0))):=by
        show _/\_;rw [I];exact HM.out
       clear HM I L O al HF;go_wp2;go_roundg (2 - (m+1))
       case measure=>omega
       case rel=>exact ⟨m+1,by omega,rfl,by first|rfl|simp,aA,aa⟩
    ·obtain rfl:j=E:=by omega
     have aI:Hid ((kIn :: D)++(ls.take j).flatMap lyW=o_K d ls):=by
      show _=_;rw [take_of_length_le (by rw [HG.2.2.1];exact Nat.le_refl _),HD.2];rfl
     obtain ⟨ws,ag⟩:∃ ws,o_K d ls=ws:=⟨_,rfl⟩
     have hJ:=HJ.1;rw [aI.out,ag] at hJ V;have bd:0 < ws.length:=by rw [<- ag];simp [o_K]
     rcases hJ.2 with ⟨_,h0⟩|⟨g,bc,a3,e,bb,aq,aU,h7⟩
     ·omega
     cases e
     have af:=Tryz.strings_Join g 0 cw ws ⟨#[32]⟩ wr (fun i x hx=>by
      have:=ownsRow.cells hJ rfl i (.string x) (by rw [getElem?_map,hx];rfl);rw [a_r] at this;exact this) (a_k aq) (by omega) aU ?am
     case am=>
      have R:=p_I HG.1 HG.2.1;rw [ag] at R
      have h2:=k_E 10000 (ws.map (·.data.toList)) fun u hu=>by
       obtain ⟨x,hx,rfl⟩:=mem_map.1 hu;exact R x hx
      rw [length_map] at h2;show (Lib.join (ws.map (·.data.toList)) [32]).length<=_;omega
     have ao:Calls Tryz.prog 54 #[.slice (some ⟨g,0,none⟩) ws.length cw,.string ⟨#[32]⟩] wr fun e w'=>e = .returned (.string r)/\Bw wr w':=by
      rw [<- HR.out,ag];exact af
     have HB:Hid _:=HJ.2.1;clear af hJ aq h7 HJ aI;go_wp2_with fail
     refine ao.mono ?_;rintro e w7 ⟨rfl,aR⟩;have aX:Hid _:=a_c HB aR;clear ao aR;go_wp2;go_ret;exact ⟨rfl,aX⟩
theorem t_7 {d:List Int} {ls:List Ly} (h:nE d ls=0):InOk d/\(∀ l∈ls,a_L l)/\ls.length<=16:=by
 obtain ⟨S,hf,I,A⟩:=c_H h;obtain ⟨E,H⟩:=(b_a d ls).1 hf;refine ⟨E,H,?_⟩;unfold d_7 at A;simp only [Bool.or_eq_false_iff,decide_eq_false_iff_not] at A;omega
theorem p_J (p M:Option Addr) (n c J c2:Nat) (d:List Int) (ls:List Ly) (ab:J<=1073741823) (w:World) (hK:Hid (Kz w)) (hP:Hid (Pz w)) (R:Nums .i64 w (.slice p n c) d) (hL:LyR 0 w M J ls):
  Calls Tryz.prog 19 #[.agg #[.slice p n c,.slice M J c2]] w fun e w'=>e = .returned (.string (r_3 d ls))/\Bw w w':=by
 obtain ⟨E,eE⟩:∃ E,nE d ls=E:=⟨_,rfl⟩
 obtain ⟨r,Z⟩:∃ r,r_3 d ls=r:=⟨_,rfl⟩
 obtain ⟨sl,O⟩:∃ sl,(nS d ls).length=sl:=⟨_,rfl⟩
 have cS:Hid (∀ W,Bw w W->Calls Tryz.prog 22 #[.agg #[.slice p n c,.slice M J c2]] W fun e w'=>∃ ps cs,e = .returned (.tuple #[.slice ps sl cs,.int .i64 E])/\Bw W w'):=fun W hW=>by
  have:=d_V p M n c J c2 d ls ab W (Hid.up_kz hK hW) (R.up hW) (hL.up hW);rw [eE,O] at this;exact this.mono fun e w' ⟨ps,cs,R,_,h2⟩=>⟨ps,cs,R,h2⟩
 have HE:Hid (nE d ls=E/\r_3 d ls=r):=⟨eE,Z⟩
 have HA:Hid (Nums .i64 w (.slice p n c) d/\LyR 0 w M J ls):=⟨R,hL⟩
 rw [Z];clear eE Z O R hL;go_enter Tryz.func19,Tryz.ntmps19;go_wp2_with fail
 generalize L:alloc _ _=W0;have V:Hid (Bw w W0):=by rw [<- L];exact a_a w _
 obtain ⟨g0,g1⟩:W0.cell? ⟨w.heap.size,0,none⟩=some (.slice p n c)/\W0.cell? ⟨w.heap.size,1,none⟩=some (.slice M J c2):=by rw [<- L];simp [go_sem]
 clear L;refine (cS.out W0 V).mono ?_;rintro e w1 ⟨ps,cs,rfl,I⟩;have H:Hid _:=a_c V I;replace g0:=a_g I g0;replace g1:=a_g I g1;clear cS I;by_cases h0:E=0
 ·subst h0;obtain ⟨f1,f2,f3⟩:=t_7 HE.1;have cw:=j_v p M n c J c2 d ls f1 f2 f3 w1 (Hid.up_kz hK H) (Hid.up_pz hP H) (HA.1.up H) (HA.2.up H);rw [show o_L (o_K d ls)=r by rw [<- HE.2];unfold r_3;rw [if_pos HE.1]] at cw;clear f1 f2 f3;go_wp2_with fail
  refine cw.mono ?_;rintro e w2 ⟨rfl,aa⟩;have ac:Hid _:=a_c H aa;clear cw aa;go_wp2;go_ret;exact ⟨rfl,ac⟩
 ·have ad:(E != 0)=true:=by simpa using h0
  have Z:r=⟨#[]⟩:=by rw [<- HE.2];unfold r_3;rw [if_neg (by rw [HE.1];exact h0)]
  subst Z;go_wp2;go_ret;exact ⟨rfl,H⟩
end Go.Proofs.YtkfpainpomobfaaGreatDoor.Wd
namespace Go.Proofs.YtkfpainpomobfaaGreatDoor.Wd
open Go.RowKit Fx List World Nat
theorem s_4 {f:Int} {sts:List Sp} {ns:List Nd} (A:NodesG ns) (H:∀ st,st∈sts->RI st.X):∀ i,NodesG (pyF f sts ns i).2.1
 | 0=>A
 | i+1=>by
  have E:=s_4 (f:=f) A H i;unfold pyF
  split
  ·dsimp only;refine E.st ?_;by_cases h:i < sts.length
   ·exact H _ (j_s h)
   ·unfold spA;rw [getD_eq_getElem?_getD,getElem?_eq_none (by omega)];exact RI.nil
  ·exact E
/-- What Run leaves on the tape are nodes. -/
theorem t_8 {d:List Int} {ls:List Ly} {ns:List Nd} {P X:List Int} (E:NodesG ns) (O:RI P) (V:RI X):NodesG (rnF d ls ns P X).2.1:=by
 unfold rnF;by_cases I:nE d ls=0
 ·rw [if_pos I];by_cases J:(P.length:Int)=b_Q ls (nS d ls) ls.length/\(X.length:Int)=a_o d
  ·rw [if_pos J];by_cases M:ns.length+(plF d ls (nS d ls) P X ls.length).1.length<=512
   ·rw [if_pos M];refine s_4 E (fun st A=>?_) _;obtain ⟨S,hf,L,H⟩:=c_H I;obtain ⟨_,R,_⟩:=h_O hf L H;rw [R] at A;exact ((i_A (NetOk.of hf L) (by unfold d_7 at H;simp at H;omega) ((b_a d ls).1 hf).1.ri O V ls.length (Nat.le_refl _)).1 st A).rX
   ·rw [if_neg M];exact E
  ·rw [if_neg J];exact E
 ·rw [if_neg I];exact E
/-- "in 2 dense 1" -/
def s_5:ByteArray:=⟨#[105,110,32,50,32,100,101,110,115,101,32,49]⟩
abbrev awL:List Ly:=[(f_m,1,0)]
theorem t_9:nE [2] awL=0:=by decide +kernel
theorem u_a:nP [2] awL=3:=by decide +kernel
theorem u_b:pE s_5=0:=by decide +kernel
theorem u_c:pX s_5=([2],awL):=by decide +kernel
theorem s_6:r_3 [2] awL=s_5:=by decide +kernel
theorem u_d:(rnF [2] awL [] [4294967296,8589934592,5] [3,4]).1=0:=by decide +kernel
theorem u_e:(rnF [2] awL [] [4294967296,8589934592,5] [3,4]).2.2.1=5:=by decide +kernel
theorem u_f:(rnF [2] awL [] [4294967296,8589934592,5] [3,4]).2.2.2 = [1,2]:=by decide +kernel
theorem u_g:(rnF [2] awL [] [4294967296,8589934592,5] [3,4]).2.1.length=6:=by decide +kernel
theorem u_h:(rnF [2] awL [] [4294967296,8589934592,5] [3,4]).2.1.map (fun nd=>(nd.D,nd.X)) = [([2],[3,4]),([1,2],[4294967296,8589934592]),([1],[5]),([1,2],[3,8]),([1],[11]),([1],[16])]:=by decide +kernel
theorem u_i:∀ st,st∈(plF [2] awL (nS [2] awL) [4294967296,8589934592,5] [3,4] awL.length).1->st.op=1∨st.op=4∨st.op=8∨st.op=2:=by
 have h:((plF [2] awL (nS [2] awL) [4294967296,8589934592,5] [3,4] awL.length).1.map Sp.op) = [1,1,1,4,8,2]:=by decide +kernel
 intro st A;have:=mem_map_of_mem (f:=Sp.op) A;rw [h] at this;simp at this;omega
theorem j_w (w:World) (hT:Hid (Tz w)) (hK:Hid (Kz w)) (hP:Hid (Pz w)):
  Calls Tryz.prog 4 #[] w fun e w'=>e = .returned (.bool true)/\Bw w w':=by
 haveI:Nonempty World:=⟨w⟩
 have cp:=n_i s_5 w hK;rw [u_b,u_c] at cp;go_enter Tryz.func4,Tryz.ntmps4;go_wp2_with fail
 refine cp.mono ?_;rintro e w1 ⟨p,n,c,Z,n2,c2,rfl,hd,hl,am⟩;obtain ⟨p',c',e',az⟩:=hl.rd;cases e';have HA:Hid (OwnK .i64 3 w1 w.heap.size (.slice p n c) [2]/\LyR 0 w1 Z 1 awL/\Bw w w1):=⟨hd,az,am⟩
 clear hd hl az am cp;go_wp2_with fail
 generalize ah:alloc _ _=W2;have ab:Bw w1 W2:=by rw [<- ah];exact a_a w1 _
 obtain ⟨g0,V⟩:W2.cell? ⟨w1.heap.size,0,none⟩=some (.slice p n c)/\W2.cell? ⟨w1.heap.size,1,none⟩=some (.slice Z 1 c2):=by rw [<- ah];simp [go_sem]
 have I:Hid (OwnK .i64 3 W2 w.heap.size (.slice p n c) [2]/\LyR 0 W2 Z 1 awL/\Bw w W2):=⟨HA.1.up ab,HA.2.1.up ab,a_c HA.2.2 ab⟩
 have cq:=k_6 p Z n c 1 c2 [2] awL (by decide) W2 (Hid.up_kz hK I.2.2) I.1.nums I.2.1;rw [u_a,t_9] at cq;clear ah ab HA;refine cq.mono ?_;rintro e w3 ⟨rfl,J⟩;have H:Hid (OwnK .i64 3 w3 w.heap.size (.slice p n c) [2]/\LyR 0 w3 Z 1 awL/\Bw w w3):=⟨I.1.up J,I.2.1.up J,a_c I.2.2 J⟩
 replace g0:=a_g J g0;replace V:=a_g J V;have ao:Hid (w3.cell? ⟨w1.heap.size,0,none⟩=some (.slice p n c)/\w3.cell? ⟨w1.heap.size,1,none⟩=some (.slice Z 1 c2)):=⟨g0,V⟩
 clear J I cq;go_wp2_with fail
 refine (k_n w3).mono ?_;rintro e E ⟨tb,rfl,aj,ad⟩;have av:Hid (TapC E w3.heap.size tb []/\Bw w3 E):=⟨aj,ad⟩
 replace g0:=a_g ad g0;replace V:=a_g ad V;have aB:=a_h g0;clear aj ad;go_wp2_with fail
 generalize L:alloc _ _=K5;have ak:Bw E (E.alloc (.cells #[.int .i64 4294967296,.int .i64 8589934592,.int .i64 5] 48)):=a_a E _;have R:Bw E K5:=by rw [<- L];exact a_c ak (a_a _ _)
 have aJ:Below (E.heap.size+1) (E.alloc (.cells #[.int .i64 4294967296,.int .i64 8589934592,.int .i64 5] 48)) K5:=by
  rw [<- L];have:=a_a (E.alloc (.cells #[.int .i64 4294967296,.int .i64 8589934592,.int .i64 5] 48)) (.cells #[.int .i64 3,.int .i64 4] 48);rw [show (E.alloc (.cells #[.int .i64 4294967296,.int .i64 8589934592,.int .i64 5] 48)).heap.size=E.heap.size+1 by simp] at this;exact this
 have l1:OwnK .i64 48 K5 E.heap.size (.slice (some ⟨E.heap.size,0,none⟩) 3 3) [4294967296,8589934592,5]:=by
  have h:=b_b (k:=.i64) (e:=48) E [4294967296,8589934592,5] 3 rfl (by decide);refine h.up ?_;rw [<- L];exact a_a _ _
 have l2:OwnK .i64 48 K5 (E.heap.size+1) (.slice (some ⟨E.heap.size+1,0,none⟩) 2 2) [3,4]:=by
  have h:=b_b (k:=.i64) (e:=48) (E.alloc (.cells #[.int .i64 4294967296,.int .i64 8589934592,.int .i64 5] 48)) [3,4] 2 rfl (by decide);rw [show (E.alloc (.cells #[.int .i64 4294967296,.int .i64 8589934592,.int .i64 5] 48)).heap.size=E.heap.size+1 by simp] at h;rw [<- L];exact h
 have O:Hid (Bw w3 K5):=a_c av.2 R
 have cr:=r_s w3.heap.size tb [] NodesG.nil (by simp) [2] awL [4294967296,8589934592,5] [3,4] (h_m (by decide +kernel)) (h_m (by decide +kernel)) (fun _ st aG ho=>by
  rcases u_i st aG with h|h|h|h
  ·exact absurd h ho
  ·rw [h];exact RkC.of (by decide) ck4
  ·rw [h];exact RkC.of (by decide) ck8
  ·rw [h];exact RkC.of (by decide) ck2) p Z (some ⟨E.heap.size,0,none⟩) (some ⟨E.heap.size+1,0,none⟩) n c 1 c2 3 3 2 2 (by decide) (by simp) K5 (av.1.up R) (by show ∀ W,_;intro W hW;exact (Hid.up_tz hT (a_c H.2.2 (O.trans hW))).out) (Hid.up_kz hK (a_c H.2.2 O)) (Kept.below H.1.nums (Nat.le_refl _) O) (fun W' aI=>H.2.1.up (O.trans aI.bel)) (l1.kept (by decide)) (by decide) (l2.kept (by decide))
 rw [u_d,u_e,u_f] at cr;replace g0:=a_g R g0;replace V:=a_g R V;obtain ⟨NS,ae⟩:∃ z,(rnF [2] awL [] [4294967296,8589934592,5] [3,4]).2.1=z:=⟨_,rfl⟩
 have aH:Hid (NodesG NS/\∃ nd,NS[5]?=some nd/\nd.D = [1]/\nd.X = [16]):=by
  rw [<- ae];refine ⟨t_8 NodesG.nil (h_m (by decide +kernel)) (h_m (by decide +kernel)),?_⟩;have h1:=u_g;obtain ⟨nd,M⟩:∃ nd,(rnF [2] awL [] [4294967296,8589934592,5] [3,4]).2.1[5]?=some nd:=⟨_,getElem?_eq_getElem (by rw [h1];decide)⟩
  have h2:((rnF [2] awL [] [4294967296,8589934592,5] [3,4]).2.1.map (fun nd=>(nd.D,nd.X)))[5]?=some ([1],[16]):=by rw [u_h];rfl
  rw [getElem?_map,M] at h2;simp at h2;exact ⟨nd,M,h2.1,h2.2⟩
 rw [ae] at cr;clear ae l1 l2 ak R aJ L;refine cr.mono ?_;rintro e w6 ⟨v6,rfl,ay,au,ap⟩;obtain ⟨pv,nv,cv,rfl,ar⟩:=ay.nums.lst;have aC:2=nv:=ar.1;subst aC;have af:Hid (Bw w3 w6):=O.trans ap;replace g0:=a_g af.out ao.1;replace V:=a_g af.out ao.2;have aO:=a_h g0;have aF:Hid (TapC w6 w3.heap.size tb NS):=au;clear ay au ap cr ar aB;go_wp2_with fail
 obtain ⟨al,nd,M,hD,hX⟩:=aH.out;have cv:=l_q w3.heap.size tb NS al 5 nd M w6 aF.out;rw [hD,hX] at cv;refine cv.mono ?_;rintro e w7 ⟨v7,rfl,⟨s7,t7,rfl,ax,ai⟩,ac⟩;obtain ⟨aN,aS,aR,rfl⟩:=ax.form_;obtain ⟨aM,aA,aP,rfl,ag⟩:=ai.nums.lst;have aD:1=aA:=ag.1;subst aD;obtain ⟨q7,o7,rfl,c7⟩:=ag.2 0 (by decide);rw [Nat.add_zero] at c7;have aE:w7.cell? ⟨q7,o7,none⟩=some (.int .i64 16):=c7;have aa:Hid (Bw w3 w7):=a_c af.out ac;replace g0:=a_g ac g0;replace V:=a_g ac V;have aL:=a_h g0;have aQ:=a_h aE;have an:LyR 0 w7 Z 1 awL:=H.2.1.up aa.out
 have cx:Hid (∀ W,Bw w7 W->Calls Tryz.prog 19 #[.agg #[.slice p n c,.slice Z 1 c2]] W fun e w'=>e = .returned (.string s_5)/\Bw W w'):=fun W hW=>by
  have h5:=a_c H.2.2 (a_c aa.out hW);have:=p_J p Z n c 1 c2 [2] awL (by decide) W (Hid.up_kz hK h5) (Hid.up_pz hP h5) (H.1.nums.up (a_c aa.out hW)) (an.up hW);rw [s_6] at this;exact this
 clear cv al M hD hX c7 ag ax ai ac an;go_wp2_with fail
 refine (cx.out _ (a_a w7 _)).mono ?_;rintro e w8 ⟨rfl,aw⟩;have HF:Hid (Bw w w8):=a_c H.2.2 (a_c aa.out (a_c (a_a w7 _) aw));clear aw cx;have aT:(s_5.toList == [105,110,32,50,32,100,101,110,115,101,32,49])=true:=by decide +kernel
 go_wp2;go_ret;exact ⟨rfl,HF.out⟩
/-- The Ops of a plan. -/
def u_j (op:Int):Prop:=op=1∨op=2∨op=4∨op=8∨op=11∨op=12∨op=13∨op=14
theorem n_N (PP:List (List Int)) (rest:List Int):∀ j st,st∈(prS PP rest j).1->st.op=1
 | 0,st,h=>by simp [prS] at h
 | j+1,st,h=>by
  rcases mem_append.1 (show st∈(prS PP rest j).1++[spL (shA PP j) ((prS PP rest j).2.take (a_o (shA PP j)).toNat)] from h) with h|h
  ·exact n_N PP rest j st h
  ·simp at h;subst h;rfl
theorem r_J (l:Ly) (d:List Int) (N:Nat) (rest:List Int) (bf last:Int):∀ st,st∈b_X l d N rest bf last->u_j st.op/\(st.par=true->st.op=1):=by
 intro st h;unfold b_X at h;rcases mem_append.1 h with h|h
 ·exact ⟨.inl (n_N _ _ _ st h),fun _=>n_N _ _ _ st h⟩
 ·unfold l_r at h;unfold u_j
  repeat' split at h
  all_goals
   simp only [mem_cons,not_mem_nil,or_false] at h
   first
    | (rcases h with h|h|h|h <;> subst h <;> exact ⟨by simp [spD],fun e=>by simp [spD] at e⟩)
    | (rcases h with h|h|h <;> subst h <;> exact ⟨by simp [spD],fun e=>by simp [spD] at e⟩)
    | (subst h;exact ⟨by simp [spD],fun e=>by simp [spD] at e⟩)
theorem q_m (d:List Int) (ls:List Ly) (S:List (List Int)) (P X:List Int):∀ i st,st∈(plF d ls S P X i).1->u_j st.op/\(st.par=true->st.op=1)
 | 0,st,h=>by
  simp [plF] at h;subst h;exact ⟨.inl rfl,fun e=>rfl⟩
 | i+1,st,h=>by
  rcases mem_append.1 (show st∈(plF d ls S P X i).1++b_X (lyA ls i) (shA S i) (plF d ls S P X i).1.length (plF d ls S P X i).2.1 (plF d ls S P X i).2.2.1 (plF d ls S P X i).2.2.2 from h) with h|h
  ·exact q_m d ls S P X i st h
  ·exact r_J _ _ _ _ _ _ st h
end Go.Proofs.YtkfpainpomobfaaGreatDoor.Wd
namespace Go.Proofs.YtkfpainpomobfaaGreatDoor.Wd
open Go.ChangeShapes Go.WideShapes Go.ChangeAt Go.RowKit Go.Joins Go.Deep
def LayN (W:World) (p:Option Addr) (n c:Nat) (ls:List Ly):Prop:=n<=c/\c<=9223372036854775807/\LyR 0 W p n ls
theorem r_K {α:Type} {l:List α} (h:l.length=3):∃ a b c,l = [a,b,c]:=by
 match l,h with
 | [a,b,c],_=>exact ⟨a,b,c,rfl⟩
theorem s_7 {W:World} {p:Option Addr} {n:Nat} (h:∀ i,i < n->∃ q o s a b,p=some ⟨q,o,none⟩/\W.cell? ⟨q,o+i*3,none⟩=some (.string s)/\W.cell? ⟨q,o+i*3+1,none⟩=some (.int .i64 a)/\W.cell? ⟨q,o+i*3+2,none⟩=some (.int .i64 b)):∃ ls,LyR 0 W p n ls:=by
 have H:∀ i,∃ l:Ly,i < n->∃ q o,p=some ⟨q,o,none⟩/\W.cell? ⟨q,o+i*3,none⟩=some (.string l.1)/\W.cell? ⟨q,o+i*3+1,none⟩=some (.int .i64 l.2.1)/\W.cell? ⟨q,o+i*3+2,none⟩=some (.int .i64 l.2.2):=fun i=>by
  by_cases A:i < n
  ·obtain ⟨q,o,s,a,b,E⟩:=h i A;exact ⟨(s,a,b),fun _=>⟨q,o,E⟩⟩
  ·exact ⟨lyD,fun I=>absurd I A⟩
 obtain ⟨f,hf⟩:=Classical.axiomOfChoice H;refine ⟨(List.range n).map f,by simp,fun i A=>?_⟩
 have e:lyA ((List.range n).map f) i=f i:=by
  unfold lyA;rw [List.getD_eq_getElem?_getD,List.getElem?_map,List.getElem?_range A];rfl
 rw [e];exact hf i A
theorem n_O {H:Type} {enc:TypeId×Value->H} {P:Program} {W:World} {t e:TypeId} {f0 f1 f2:Field} {a:Option Addr} {n c:Nat} {d:DataW H} {ps:List MemPlace}
  (ht:P.underlying t=some (.slice e)) (he:P.underlying e=some (.struct #[f0,f1,f2])) (ce:P.cellsOf e=3)
  (o0:f0.offset=0) (o1:f1.offset=1) (o2:f2.offset=2) (c0:P.cellsOf f0.type=1) (c1:P.cellsOf f1.type=1) (c2:P.cellsOf f2.type=1)
  (u0:P.underlying f0.type=some .string) (u1:P.underlying f1.type=some (.int .i64)) (u2:P.underlying f2.type=some (.int .i64))
  (h:DataW.Trod enc P W 0 (fun _=>true) true t (.slice a n c) d ps):∃ ls,LayN W a n c ls:=by
 obtain ⟨fuel,hf⟩:=h;rcases open_slice ht hf with ⟨E,_⟩|⟨x,al,an,m,fu,D,Pl,E,hb,hl,hm,ah,_,hx⟩
 ·simp [Value.cells] at E;obtain ⟨rfl,rfl,rfl⟩:=E;exact ⟨[],Nat.le_refl _,by omega,rfl,fun i hi=>by omega⟩
 ·simp [Value.cells] at E;obtain ⟨rfl,rfl,rfl⟩:=E
  have af:∃ ls,LyR 0 W (some x) n ls:=s_7 fun i hi=>by
   have am:n<=m:=by rw [ah];split <;> omega
   obtain ⟨ak,h1,h2⟩:=hx i (by omega);rw [ce] at h1;obtain ⟨_,R,A⟩:=World.cells?_some h1;obtain ⟨xs,fk,_,_,_,ad,L⟩:=DataW.trod_struct he h2;obtain ⟨y0,y1,y2,rfl⟩:=r_K ad;obtain ⟨v0,v1,v2,rfl⟩:=r_K R;have t0:=L 0 f0 rfl;have t1:=L 1 f1 rfl;have t2:=L 2 f2 rfl;simp [o0,c0] at t0;simp [o1,c1] at t1;simp [o2,c2] at t2;obtain ⟨z0,aa,_,w0⟩:=DataW.trod_string u0 t0;obtain ⟨z1,ab,_,w1⟩:=DataW.trod_int u1 t1;obtain ⟨z2,V,_,w2⟩:=DataW.trod_int u2 t2;simp only [List.cons.injEq,and_true] at aa ab V;subst aa ab V;have ac:=A 0 (by omega);have O:=A 1 (by omega);have Z:=A 2 (by omega);rw [add_add] at ac O Z
   have ex:x=⟨x.block,x.off,none⟩:=by
    obtain ⟨aj,M,_⟩:=hx 0 (by omega);rw [ce] at M;obtain ⟨_,J,I⟩:=World.cells?_some M;obtain ⟨ag,ap,ao,rfl⟩:=r_K J;have h0:=I 0 (by omega);rw [add_add,Nat.zero_mul] at h0;have ai:x.add (0+0)=x:=by simp [Addr.add]
    rw [ai] at h0;exact e_A (v:=ag) (by simpa using h0)
   have hs:∀ j v,W.cell? (x.add j)=some v->x=⟨x.block,x.off,none⟩/\W.cell? ⟨x.block,x.off+j,none⟩=some v:=fun j v hv=>by
    rw [ex,a_r] at hv;exact ⟨ex,hv⟩
   have n0:=hs _ _ (by simpa using ac);refine ⟨x.block,x.off,z0,z1,z2,by rw [<- n0.1],n0.2,?_,?_⟩
   ·rw [Nat.add_assoc];exact (hs _ _ (by simpa using O)).2
   ·rw [Nat.add_assoc];exact (hs _ _ (by simpa using Z)).2
  obtain ⟨ls,ae⟩:=af;exact ⟨ls,hl,by unfold maxLen at hm;omega,ae⟩
theorem open_net {H:Type} {enc:TypeId×Value->H} {P:Program} {W:World} {r:Reach} {b0:Nat} {t V Z:TypeId} {g0 g1 O L J:Field} {v:Value} {d:DataW H} {ps:List MemPlace}
  (hs:P.underlying t=some (.struct #[g0,g1])) (A:oneCellFields P #[g0,g1]=true) (hC:P.cellsOf t=2)
  (t0:P.underlying g0.type=some (.slice V)) (u0:P.underlying V=some (.int .i64)) (c0:P.cellsOf V=1)
  (t1:P.underlying g1.type=some (.slice Z)) (he:P.underlying Z=some (.struct #[O,L,J])) (ce:P.cellsOf Z=3)
  (o0:O.offset=0) (o1:L.offset=1) (o2:J.offset=2) (k0:P.cellsOf O.type=1) (k1:P.cellsOf L.type=1) (k2:P.cellsOf J.type=1)
  (v0:P.underlying O.type=some .string) (v1:P.underlying L.type=some (.int .i64)) (v2:P.underlying J.type=some (.int .i64))
  (hv:Value.okWide P W r b0 t v) (h:DataW.Trod enc P W 0 (fun _=>true) true t v d ps):
  ∃ (a:Option Addr) (n c:Nat) (z:Nat->Int) (M:Option Addr) (I R:Nat) (ls:List Ly),v = .agg #[.slice a n c,.slice M I R]/\RowN .i64 W a n c z/\LayN W M I R ls:=by
 obtain ⟨x0,x1,y0,y1,m,rfl,_,_,h0,h1⟩:=open_agg2 hs A hC hv h;obtain ⟨a,n,c,ea⟩:=slice_form t0 h0;obtain ⟨M,I,R,E⟩:=slice_form t1 h1;simp only [List.cons.injEq,and_true] at ea E;subst ea E;obtain ⟨z,hz⟩:=open_rowN (d:=y0.1) (ps:=y0.2) t0 u0 c0 ⟨m,h0⟩;obtain ⟨ls,aa⟩:=n_O (d:=y1.1) (ps:=y1.2) t1 he ce o0 o1 o2 k0 k1 k2 v0 v1 v2 ⟨m,h1⟩;exact ⟨a,n,c,z,M,I,R,ls,rfl,hz,aa⟩
end Go.Proofs.YtkfpainpomobfaaGreatDoor.Wd
