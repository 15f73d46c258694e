/- Sums of products, exact however great th -/
import Derived.Test.YtihjnbbhpojnpaaGreatDoorQ06
import Derived.Lib.BitFns
set_option linter.unusedVariables false
set_option linter.unusedSimpArgs false
set_option maxHeartbeats 16000000
set_option maxRecDepth 16000
namespace Go.Proofs.YtihjnbbhpojnpaaGreatDoor.Wd
open Go.RowKit Fx
attribute [local go_sem] fld_hi fld_lo
theorem Hid.up_tz {w w1:World} (h:Hid (Tz w)) (hb:Below w.heap.size w w1):Hid (Tz w1):=h.out.up hb
/-- A number of 128 bits that lies in two cells of a block, from o on, which may be written. -/
def LieA (W:World) (b o:Nat) (x:Int):Prop:=
 b < W.heap.size∧W.cell? ⟨b,o,none⟩=some (.int .i64 (x / 18446744073709551616))∧W.cell? ⟨b,o+1,none⟩=some (.int .u64 (x % 18446744073709551616))∧W.frozen? ⟨b,o,none⟩=false∧W.frozen? ⟨b,o+1,none⟩=false
/-- All stands but the four cells of the block b from o on. -/
structure Near (b o:Nat) (W W':World):Prop where
 below:Below b W W'
 stay:Stay b W W'
 cell:∀ i,(i < o∨o+4≤i)→W'.cell? ⟨b,i,none⟩=W.cell? ⟨b,i,none⟩
 frozen:∀ i,W'.frozen? ⟨b,i,none⟩=W.frozen? ⟨b,i,none⟩
theorem Near.trans {b o:Nat} {A B C:World} (h:Near b o A B) (k:Near b o B C):Near b o A C:=
 ⟨h.below.trans k.below,h.stay.trans k.stay,fun i hi=>(k.cell i hi).trans (h.cell i hi),fun i=>(k.frozen i).trans (h.frozen i)⟩
/-- A sum of products, at most m of them, in four cells. -/
def SumAt (W:World) (b o m:Nat) (T:Int):Prop:=
 ∃ A B:Int,A*18446744073709551616+B=T∧-(4611686018427387904*(m:Int))≤A∧A≤4611686018427387904*(m:Int)∧0≤B∧B≤18446744073709551616*(m:Int)∧LieA W b o A∧LieA W b (o+2) B
end Go.Proofs.YtihjnbbhpojnpaaGreatDoor.Wd
namespace Go.Proofs.YtihjnbbhpojnpaaGreatDoor.Wd
open Go.RowKit Fx
attribute [local go_sem] fld_hi fld_lo
/-- The words that lie there. -/
theorem Lies.words {W:World} {b:Nat} {x h l:Int} (H:Lies W b x) (e:x=h*18446744073709551616+l) (l1:0≤l) (l2:l≤18446744073709551615):W.cell? ⟨b,0,none⟩=some (.int .i64 h)∧W.cell? ⟨b,1,none⟩=some (.int .u64 l):=by
 refine ⟨?_,?_⟩
 ·rw [H.2.1,show x / 18446744073709551616=h by omega]
 ·rw [H.2.2.1,show x % 18446744073709551616=l by omega]
theorem total_any (p:Option Addr) (n c:Nat) (x:List Int) (hx:RI x) (hn:n≤4096) (w:World) (hv:Nums .i64 w (.slice p n c) x):
  Calls Tryz.prog 116 #[.slice p n c] w fun e w'=>e = .returned (wd (totalI x))∧Below w.heap.size w w':=by
 obtain ⟨_,_,_,e4,HX⟩:=hv.lst
 cases e4
 have HS:Hid (totalI x=sumI (fun q=>x.getD q 0) n):=by show _=_;rw [totalI,HX.out.1]
 have HR:Hid (∀ k,k≤n→InW (sumI (fun q=>x.getD q 0) k)):=fun k hk=>by
  have h1:=sumI_rng (f:=fun q=>x.getD q 0) (B:=9223372036854775808) (by omega) k fun q _=>by have:=getD_inR hx q;unfold InR at this;omega
  unfold InW
  omega
 have HI:Hid (RI x):=hx
 have hn1:(n:Int)≤4096:=by omega
 obtain ⟨T,eT⟩:∃ T,totalI x=T:=⟨_,rfl⟩
 rw [eT] at HS ⊢
 clear hv hx eT
 haveI:Nonempty World:=⟨w⟩
 go_enter Tryz.func116,Tryz.ntmps116
 go_wp2_with fail
 go_loopg [8] n (fun g i wr=>∃ (k:Nat),k≤n∧g=n - k∧i = .int .i64 (k:Int)∧Hid (Lies wr w.heap.size 0)∧Hid (Lies wr (w.heap.size+1) (sumI (fun q=>x.getD q 0) k))∧Hid (Below w.heap.size w wr))
 case atStart=>
  refine ⟨0,by omega,by omega,rfl,?_,?_,show Below _ _ _ by go_grown⟩
  ·show Lies _ _ _
   unfold Lies
   simp [go_sem]
  ·show Lies _ _ _
   simp only [sumI]
   unfold Lies
   simp [go_sem]
 case round=>
  obtain ⟨k,hk,hg,rfl,L0,L1,HB⟩:=hrel
  obtain ⟨R1,hR1⟩:∃ R1:World,R1=wr:=⟨_,rfl⟩
  subst hR1
  by_cases hkn:k < n
  ·have hk':(k:Int) < (n:Int):=by omega
   obtain ⟨q,o,rfl,hc0⟩:=HX.out.2 k hkn
   have hc1:=cell_low hc0 HB.out
   have lt0:=wcell_lt hc1
   have hX:=getD_inR HI.out k
   have wS:=HR.out k hk
   have wT:=HR.out (k+1) (by omega)
   obtain ⟨S,eS⟩:∃ S,sumI (fun q=>x.getD q 0) k=S:=⟨_,rfl⟩
   have eT1:sumI (fun q=>x.getD q 0) (k+1)=S+x.getD k 0:=by rw [sumI,eS]
   rw [eT1] at wT
   obtain ⟨X,eX⟩:∃ X,x.getD k 0=X:=⟨_,rfl⟩
   rw [eX] at hc1 hX wT eT1
   rw [eS] at wS L1
   have HT1:Hid (sumI (fun q=>x.getD q 0) (k+1)=S+X):=eT1
   obtain ⟨sh,sl,es,s1,s2,s3,s4,Hs⟩:=words wS
   obtain ⟨xh,xl,exw,x1,x2,x3,x4,Hx⟩:=words (InR.w hX)
   obtain ⟨th,tl,et,t1,t2,t3,t4,Ht⟩:=words wT
   have cOf:∀ W:World,Calls Tryz.prog 141 #[.int .i64 X] W fun e w'=>e = .returned (.agg #[.int .i64 xh,.int .u64 xl])∧Below W.heap.size W w':=by
    intro W;have:=of_any X hX W;rw [exw] at this;exact this
   have cAd:∀ W:World,Calls Tryz.prog 143 #[.agg #[.int .i64 sh,.int .u64 sl],.agg #[.int .i64 xh,.int .u64 xl]] W fun e w'=>e = .returned (.agg #[.int .i64 th,.int .u64 tl])∧Below W.heap.size W w':=by
    intro W;have:=add_in S X wS (InR.w hX) wT W;rw [exw,es,et] at this;exact this
   obtain ⟨q0,q1⟩:=L1.out.words Hs.out s3 s4
   have lt1:=L1.out.1
   clear eS eX eT1 hc0 es exw et hX wS wT
   go_wp2_with fail
   refine flow 4 18 (by kernel_rfl) rfl rfl (by kernel_rfl) ?_
   apply Exists.intro
   refine ⟨?_,?_⟩
   ·intro F hF
    have hFc:=hF.cell
    have hFf:=hF.frozen
    simp only [List.take_succ_cons,List.take_zero,List.eraseIdx_cons_succ,List.eraseIdx_cons_zero]
    repeat (go_big_quiet_step (first|(go_at_call 141;with_reducible exact hF.call (cOf _))|(go_at_call 143;with_reducible exact hF.call (cAd _))))
    refine wpQuiet_nil ?_
    exact rfl
   ·intro W2 hW2
    simp only [List.drop_succ_cons,List.drop_zero]
    have M:=L1.out.up hW2
    have N0:Hid (Lies ((W2.setCell ⟨w.heap.size+1,0,none⟩ (.int .i64 th)).setCell ⟨w.heap.size+1,1,none⟩ (.int .u64 tl)) w.heap.size 0):=(L0.out.up hW2).off (by omega)
    have N1:Hid (Lies ((W2.setCell ⟨w.heap.size+1,0,none⟩ (.int .i64 th)).setCell ⟨w.heap.size+1,1,none⟩ (.int .u64 tl)) (w.heap.size+1) (S+X)):=M.set (by have:=Ht.out;omega) (by have:=Ht.out;omega)
    have B2:Hid (Below w.heap.size w ((W2.setCell ⟨w.heap.size+1,0,none⟩ (.int .i64 th)).setCell ⟨w.heap.size+1,1,none⟩ (.int .u64 tl))):=below_set2 (HB.out.trans (hW2.mono HB.out.size)) _ (by omega) _ _
    obtain ⟨g0,g1,g2,g3,g4⟩:=M
    clear hW2 cOf cAd q0 q1 lt1 L0 L1 HB
    go_wp2
    go_roundg (n - (k+1))
    case measure=>omega
    case rel=>exact ⟨k+1,by omega,rfl,by first|rfl|simp,N0,by rw [HT1.out];exact N1,B2⟩
  ·obtain rfl:k=n:=by omega
   have wS:=HR.out k hk
   rw [← HS.out] at L1 wS
   obtain ⟨sh,sl,es,s1,s2,s3,s4,Hs⟩:=words wS
   obtain ⟨q0,q1⟩:=L1.out.words Hs.out s3 s4
   obtain ⟨g0,g1,g2,g3,g4⟩:=L0.out
   have lt1:=L1.out.1
   have cf:=L0.out.set (y:=T) (yh:=sh) (yl:=sl) (by have:=Hs.out;omega) (by have:=Hs.out;omega)
   have BF:=below_set2 HB.out w.heap.size (Nat.le_refl _) (.int .i64 sh) (.int .u64 sl)
   obtain ⟨y0,y1⟩:=cf.words Hs.out s3 s4
   clear cf wS
   go_wp2
   exact bodyPost_ret (v:=.agg #[.int .i64 sh,.int .u64 sl]) (by simp [results,Tryz.results116,go_sem,y0,y1]) rfl ⟨by rw [es],BF⟩
end Go.Proofs.YtihjnbbhpojnpaaGreatDoor.Wd
namespace Go.Proofs.YtihjnbbhpojnpaaGreatDoor.Wd
open Go.RowKit Fx
end Go.Proofs.YtihjnbbhpojnpaaGreatDoor.Wd
namespace Go.Proofs.YtihjnbbhpojnpaaGreatDoor.Wd
open Go.RowKit
/-- What a cut of a row holds, whatever its elements' kind. -/
theorem cut_nums {k:IntKind} {W:World} {p:Option Addr} {n cap i j:Nat} {l:List Int} (h:i≤j) (h2:j≤n) (hl:l.length=n) (hn:n≤cap) (hb:Nums k W (.slice p n cap) l):Nums k W (sliced p i j cap 1) ((l.drop i).take (j - i)):=by
 rcases hb with ⟨e,rfl⟩|⟨ad,c',e,hx⟩
 ·cases e
  obtain rfl:i=0:=by omega
  obtain rfl:j=0:=by omega
  exact .inl ⟨rfl,rfl⟩
 ·cases e
  have hlen:((l.drop i).take (j - i)).length=j - i:=by simp;omega
  unfold sliced
  by_cases c:cap=i
  ·rw [if_pos c]
   exact .inr ⟨ad,cap - i,by rw [hlen],fun q u hu=>by
    rw [vals,List.getElem?_eq_none (by rw [List.length_map,hlen];omega)] at hu
    cases hu⟩
  ·rw [if_neg c]
   refine .inr ⟨ad.add (i*1),cap - i,by rw [hlen];rfl,fun q u hu=>?_⟩
   rw [vals,List.getElem?_map] at hu
   obtain ⟨x,hx',rfl⟩:=Option.map_eq_some_iff.1 hu
   have hj:q < j - i:=by
    rcases Nat.lt_or_ge q (j - i) with h|h
    ·exact h
    ·rw [List.getElem?_eq_none (by rw [hlen];exact h)] at hx';cases hx'
   rw [List.getElem?_take_of_lt hj,List.getElem?_drop] at hx'
   have h0:=hx (i+q) (.int k x) (by rw [vals,List.getElem?_map,hx'];rfl)
   have e0:=hx 0 (.int k (l[0]'(by omega))) (by rw [vals,List.getElem?_map,List.getElem?_eq_getElem (by omega)];rfl)
   have e1:ad=⟨ad.block,ad.off,none⟩:=spot_none (by
    have:ad.add 0=ad:=by simp [Addr.add]
    rw [this] at e0;exact e0)
   rw [e1,addr_plus] at h0
   rw [e1,Nat.mul_one,addr_plus,addr_plus,Nat.add_assoc]
   exact h0
/-- The front of a row of one's own is one's own. -/
theorem OwnK.cut {k:IntKind} {e:TypeId} {W:World} {B:Nat} {p:Option Addr} {n c:Nat} {l:List Int} (h:OwnK k e W B (.slice p n c) l) (j:Nat) (hj:j≤n):OwnK k e W B (sliced p 0 j c 1) (l.take j):=by
 obtain ⟨hl,h2⟩:=h
 rcases h2 with ⟨e1,h0⟩|⟨g,cap,cur,e1,hb,hg,hc,hm,hs,ht⟩
 ·cases e1
  obtain rfl:j=0:=by omega
  rw [List.take_zero]
  exact ⟨rfl,.inl ⟨by simp [sliced],rfl⟩⟩
 ·cases e1
  have hlen:(l.take j).length=j:=by rw [List.length_take];omega
  refine ⟨by simp [vals],.inr ⟨g,c,cur,?_,hb,hg,by omega,hm,hs,?_⟩⟩
  ·rw [hlen]
   simp [sliced,Addr.add]
  ·rw [hlen,Nat.mul_one]
   rw [Nat.mul_one] at ht
   have:cur.toList.take j=(cur.toList.take l.length).take j:=by rw [List.take_take,Nat.min_eq_left hj]
   rw [this,ht]
   simp [vals]
/-- Without the frame's end: a cut is a slice of its own length. -/
theorem sliced_is (p:Option Addr) (i j cap:Nat):∃ q,sliced p i j cap 1 = .slice q (j - i) (cap - i):=by
 unfold sliced
 by_cases c:cap=i
 ·rw [if_pos c];exact ⟨_,rfl⟩
 ·rw [if_neg c];exact ⟨_,rfl⟩
theorem cutI_h (p:Option Addr) (n cap j:Nat) (h2:j≤cap) (W:World):Sem.run Tryz.prog (Instr.slice 23 (.slice p n cap) none (some (.int .i64 (j:Int))) none) W = .ok (sliced p 0 j cap 1) W:=by
 have hz:∀ W,Sem.run Tryz.prog (sizeOf (Tryz.prog.elem 23)) W = .ok 1 W:=fun W=>by kernel_rfl
 have:=run_slice_h (P:=Tryz.prog) W 23 p n cap (by kernel_rfl) .i64 (j:Int) (by omega) (by omega)
 rw [this,hz]
 simp [Result.andThen]
theorem cutF_lh (p:Option Addr) (n cap i j:Nat) (h:i≤j) (h2:j≤cap) (W:World):Sem.run Tryz.prog (Instr.slice 47 (.slice p n cap) (some (.int .i64 (i:Int))) (some (.int .i64 (j:Int))) none) W = .ok (sliced p i j cap 1) W:=by
 have hz:∀ W,Sem.run Tryz.prog (sizeOf (Tryz.prog.elem 47)) W = .ok 1 W:=fun W=>by kernel_rfl
 have:=run_slice_lh (P:=Tryz.prog) W 47 p n cap (by kernel_rfl) .i64 .i64 (i:Int) (j:Int) (by omega) (by omega) (by omega)
 rw [this,hz]
 simp [Result.andThen]
theorem cutF_l (p:Option Addr) (n cap i:Nat) (h:i≤n) (W:World):Sem.run Tryz.prog (Instr.slice 47 (.slice p n cap) (some (.int .i64 (i:Int))) none none) W = .ok (sliced p i n cap 1) W:=by
 have hz:∀ W,Sem.run Tryz.prog (sizeOf (Tryz.prog.elem 47)) W = .ok 1 W:=fun W=>by kernel_rfl
 have:=run_slice_l (P:=Tryz.prog) W 47 p n cap (by kernel_rfl) .i64 (i:Int) (by omega) (by omega)
 rw [this,hz]
 simp [Result.andThen]
theorem cutF_h (p:Option Addr) (n cap j:Nat) (h2:j≤cap) (W:World):Sem.run Tryz.prog (Instr.slice 47 (.slice p n cap) none (some (.int .i64 (j:Int))) none) W = .ok (sliced p 0 j cap 1) W:=by
 have hz:∀ W,Sem.run Tryz.prog (sizeOf (Tryz.prog.elem 47)) W = .ok 1 W:=fun W=>by kernel_rfl
 have:=run_slice_h (P:=Tryz.prog) W 47 p n cap (by kernel_rfl) .i64 (j:Int) (by omega) (by omega)
 rw [this,hz]
 simp [Result.andThen]
end Go.Proofs.YtihjnbbhpojnpaaGreatDoor.Wd
namespace Go.Proofs.YtihjnbbhpojnpaaGreatDoor.Kn
open Go.RowKit
variable {Y Y1 Y0 u v : Int}
theorem whole (N y P Y U L Q1 Q0 R1 R0:Int) (hP:0 < P) (hY:Y=y*P) (hy:0 < y) (h0:0≤R0) (h1:R0 < Y)
  (hN:N*P=U*18446744073709551616+L) (e1:U*4294967296+L / 4294967296=Q1*Y+R1) (e2:R1*4294967296+L % 4294967296=Q0*Y+R0):
  N / y=Q1*4294967296+Q0∧R0 / P=N % y:=by
 have hA:N*P=(Q1*4294967296+Q0)*Y+R0:=by
  rw [Int.add_mul,Int.mul_assoc,Int.mul_comm 4294967296 Y,← Int.mul_assoc]
  omega
 have hR:R0=(N - (Q1*4294967296+Q0)*y)*P:=by
  rw [Int.sub_mul,hA,hY,Int.mul_assoc];omega
 have hd:R0 / P=N - (Q1*4294967296+Q0)*y:=by
  rw [hR];exact Int.mul_ediv_cancel _ (by omega)
 have p0:0≤N - (Q1*4294967296+Q0)*y:=by rw [← hd];exact Int.ediv_nonneg h0 (by omega)
 have p1:N - (Q1*4294967296+Q0)*y < y:=by
  rw [← hd];exact Int.ediv_lt_of_lt_mul hP (by rw [← hY];exact h1)
 have:=(Int.ediv_emod_unique (a:=N) (b:=y) (r:=N - (Q1*4294967296+Q0)*y) (q:=Q1*4294967296+Q0) hy).2 ⟨by rw [Int.mul_comm];omega,p0,p1⟩
 exact ⟨this.1,by rw [hd,this.2]⟩
end Go.Proofs.YtihjnbbhpojnpaaGreatDoor.Kn
