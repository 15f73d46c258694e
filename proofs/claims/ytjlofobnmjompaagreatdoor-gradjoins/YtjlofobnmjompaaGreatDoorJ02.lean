/- Tensors: what tens.walk hands back. Tensors: what tens.spread hands back. Tensors that are answered: two slices of the call's own, told in a cell of the callee. Nothing of the program is named here but its types. · Tensors that can be read: what tens.Good, tens.Same and the reference's Is, Alike tell of them. · What an operation of a drawn region hands back, told by predicates that hold on: a cell newly made, a literal's row, a tensor of one's own. · Nodes that a tape keeps: how they lie in memory, what a change of one tape leaves as it was. Nothing of the program is named here but types. · Th -/
import Derived.Test.YtjlofobnmjompaaGreatDoorJ01
import Derived.Test.YtjlofobnmjompaaGreatDoorJ00
import Derived.Deep.AppendLies
import Derived.Shelf.Small.Bits
import Derived.Shelf.Strconv.Itoa0
import Derived.Shelf.Bits.Mul64
import Derived.Test.YtjlofobnmjompaaGreatDoorProg
import Derived.WalkKit
import Derived.ProofKit
import Derived.WalkSpells
set_option linter.unusedVariables false
set_option linter.unusedSimpArgs false
set_option maxHeartbeats 16000000
set_option maxRecDepth 16000
namespace Go.Proofs.YtjlofobnmjompaaGreatDoor.Wd
open Go.RowKit
/-- make of no number, with room. -/
theorem wpList_make0K {P:Program} {t e:TypeId} {k:IntKind} {b:Nat} (T:NumT P t e k b) (hb8:b≤8) (w:World) {ops:Array Oper} {rest:List Oper} {o:Oper} {a:Act} {Q:Exit→Act→World→Prop}
  (hg:o.guard=none) (l c:Operand) (hop:o.op=Op.makeSlice t l c) (kl kc:IntKind) (C:Int) (n:Nat) (hl:a.eval l = .int kl 0) (hc:a.eval c = .int kc C) (hC:C=(n:Int)) (hn:n≤1073741824)
  (hK:∀ w',Hid (OwnK k e w' w.heap.size (.slice (some ⟨w.heap.size,0,none⟩) 0 n) [])→Below w.heap.size w w'→wpList P ops Q rest (a.put o.dst (.slice (some ⟨w.heap.size,0,none⟩) 0 n)) w'):
  wpList P ops Q (o :: rest) a w:=by
 obtain ⟨i0,hi,hz0,hz1,hz2⟩:=info_of T
 have hm:b*n≤8*1073741824:=Nat.mul_le_mul hb8 hn
 refine wpList_make_own w hg l c t hop w.heap.size e i0 (.int k 0) 1 T.ht hi hz0 hz1 kl kc C n hl hc hC (by rw [hz2];omega) (by unfold maxLen;omega) (Nat.le_refl _) ?_
 intro w' h1 h2
 exact hK w' h1 (Below.grown (Below.refl _ _) h2 (Nat.le_refl _) (fun j hj=>by cases hj))
theorem rowW_le {d s:List Nat} (hd:∀ x,x∈d→x≤4096) (hs:∀ x,x∈s→x≤4096):∀ k a,a∈rowW d s k→a≤k*16777216
 | 0,a,h=>by simp [rowW] at h;omega
 | k+1,a,h=>by
  rw [rowW] at h
  obtain ⟨b,hb,h⟩:=List.mem_flatMap.1 h
  obtain ⟨n,hn,rfl⟩:=List.mem_map.1 h
  have h1:=rowW_le hd hs k b hb
  have h2:=List.mem_range.1 hn
  have h3:d.getD k 0≤4096:=by
   rcases Nat.lt_or_ge k d.length with hk|hk
   ·rw [getD_lt d k 0 hk];exact hd _ (List.getElem_mem _)
   ·rw [getD_ge d k 0 hk];omega
  have h4:s.getD k 0≤4096:=by
   rcases Nat.lt_or_ge k s.length with hk|hk
   ·rw [getD_lt s k 0 hk];exact hs _ (List.getElem_mem _)
   ·rw [getD_ge s k 0 hk];omega
  have:=Nat.mul_le_mul (show n≤4096 by omega) h4
  omega
theorem itl_app (a b:List Nat):itl (a++b)=itl a++itl b:=by simp [itl]
theorem range_map_succ (g:Nat→Nat) (i:Nat):(List.range (i+1)).map g=(List.range i).map g++[g i]:=by rw [List.range_succ,List.map_append];rfl
theorem flat_succ (l:List Nat) (f:Nat→List Nat) (j:Nat) (h:j < l.length):(l.take (j+1)).flatMap f=(l.take j).flatMap f++f (l.getD j 0):=by
 rw [List.take_succ_eq_append_getElem h,List.flatMap_append,getD_lt l j 0 h]
 simp
theorem walk_any (u v:Value) (d s:List Nat) (hd:goodN d) (hs:s.length=d.length) (hb:∀ x,x∈s→x≤4096) (w:World) (hu:Nums .i64 w u (itl d)) (hv:Nums .i64 w v (itl s)):
  Calls Tryz.prog 161 #[u,v] w fun e w'=>∃ v',e = .returned v'∧OwnK .i64 3 w' w.heap.size v' (itl (walkN d s))∧Below w.heap.size w w':=by
 obtain ⟨p,n,c,rfl,HA⟩:=hu.lst
 obtain ⟨p2,n2,c2,rfl,HB⟩:=hv.lst
 have hdn:d.length=n:=by rw [← itl_len d];exact HA.out.1
 obtain rfl:n2=n:=by rw [← hdn,← hs,← itl_len s];exact HB.out.1.symm
 have hn:n2≤4:=by rw [← hdn];exact hd.1
 have hn':(n2:Int)≤4:=by omega
 have HD:Hid (goodN d∧s.length=d.length∧(∀ x,x∈s→x≤4096)∧d.length=n2):=⟨hd,hs,hb,hdn⟩
 obtain ⟨L,eL⟩:∃ L,itl (walkN d s)=L:=⟨_,rfl⟩
 have HL:Hid (itl (walkN d s)=L):=eL
 have H5:Hid (OwnK .i64 3 (w.alloc (.cells #[.int .i64 0] 3)) w.heap.size (.slice (some ⟨w.heap.size,0,none⟩) 1 1) (itl (rowW d s 0))):=own_lit w [0] 1 rfl (by decide)
 have H8:Hid (Below w.heap.size w (w.alloc (.cells #[.int .i64 0] 3))):=up_alloc w _
 rw [eL]
 clear eL hd hs hb hdn hu hv
 go_enter Tryz.func161,Tryz.ntmps161
 go_wp2_with fail
 go_loopg [5,15] n2 (fun gg r i wr=>∃ (k:Nat),k≤n2∧gg=n2 - k∧i = .int .i64 (k:Int)∧Hid (OwnK .i64 3 wr w.heap.size r (itl (rowW d s k)))∧Hid (Below w.heap.size w wr))
 case atStart=>exact ⟨0,by omega,by omega,by first|rfl|simp,H5,H8⟩
 case round=>
  obtain ⟨k,hk,hg,rfl,HO,hB⟩:=hrel
  obtain ⟨R0,hR0⟩:∃ R0:World,R0=wr:=⟨_,rfl⟩
  subst hR0
  by_cases hkn:k < n2
  ·have hk':(k:Int) < (n2:Int):=by omega
   obtain ⟨q,o,rfl,hc1⟩:=HA.out.2 k hkn
   have hcell:=cell_low hc1 hB.out
   obtain ⟨q2,o2,rfl,hc2⟩:=HB.out.2 k hkn
   have hcell2:=cell_low hc2 hB.out
   clear hc1 hc2
   obtain ⟨rp,N,rc,erow,HR⟩:=HO.out.nums.lst
   subst erow
   rw [itl_getD] at hcell hcell2
   obtain ⟨D,eD⟩:∃ D,d.getD k 0=D:=⟨_,rfl⟩
   obtain ⟨st,es⟩:∃ st,s.getD k 0=st:=⟨_,rfl⟩
   rw [eD] at hcell
   rw [es] at hcell2
   obtain ⟨l,el⟩:∃ l,rowW d s k=l:=⟨_,rfl⟩
   have hdk:=HD.out.1.at k (by rw [HD.out.2.2.2];exact hkn)
   rw [eD] at hdk
   have hst:st≤4096:=by
    rw [← es,getD_lt s k 0 (by rw [HD.out.2.1,HD.out.2.2.2];exact hkn)]
    exact HD.out.2.2.1 _ (List.getElem_mem _)
   have hN:l.length=N:=by rw [← el,← itl_len];exact HR.out.1
   have hND:N*D≤4096:=by
    rw [← hN,← el,rowW_len d s k (by rw [HD.out.2.2.2];omega),← eD,getD_lt d k 0 (by rw [HD.out.2.2.2];exact hkn),← prodN_take_succ d k (by rw [HD.out.2.2.2];exact hkn)]
    exact Nat.le_trans (prodN_take_le HD.out.1.2.1 _) HD.out.1.2.2
   have hND':(N:Int)*(D:Int)≤4096:=by rw [← Int.natCast_mul];omega
   have hND0:0≤(N:Int)*(D:Int):=by rw [← Int.natCast_mul];omega
   have hN4:N≤4096:=by
    have:=Nat.mul_le_mul (Nat.le_refl N) hdk.1
    omega
   have hN4':(N:Int)≤4096:=by omega
   have hD':1≤(D:Int)∧(D:Int)≤4096:=by omega
   have hst':0≤(st:Int)∧(st:Int)≤4096:=by omega
   obtain ⟨f,ef⟩:∃ f:Nat→List Nat,(fun a=>(List.range D).map fun n=>a+n*st)=f:=⟨_,rfl⟩
   have HF:Hid ((fun a=>(List.range D).map fun n=>a+n*st)=f∧rowW d s (k+1)=l.flatMap f∧rowW d s k=l∧l.length=N):=⟨ef,by rw [rowW,el,eD,es,ef],el,hN⟩
   have HLl:Hid (∀ j,j < N→l.getD j 0≤67108864):=fun j hj=>by
    have hjl:j < l.length:=by rw [HF.out.2.2.2];exact hj
    have hmem:l.getD j 0∈rowW d s k:=by
     rw [HF.out.2.2.1,getD_lt l j 0 hjl]
     exact List.getElem_mem _
    have:=rowW_le HD.out.1.le HD.out.2.2.1 k _ hmem
    omega
   obtain ⟨M,eM⟩:∃ M:Nat,N*D=M:=⟨_,rfl⟩
   have eM':(N:Int)*(D:Int)=(M:Int):=by rw [← Int.natCast_mul,eM]
   have hM:M≤4096:=by omega
   have HM:Hid (N*D=M):=eM
   clear eD es el hN ef hND hND' hND0 eM hdk hst
   go_wp2_with (at_make;refine wpList_make0K numT (by decide) _ rfl (.const (.int .i64 0)) (.tmp 23) rfl .i64 .i64 _ M rfl rfl rfl (by omega) ?_;intro w1 HO1 B1)
   rw [show ([]:List Int)=itl ((l.take 0).flatMap f) by simp [itl]] at HO1
   have HC2:Hid (R0.cell? ⟨q2,o2+k,none⟩=some (.int .i64 (st:Int))):=hcell2
   clear hcell hcell2 HO eM'
   go_wp2_with fail
   go_loopg [8,27] N (fun gg r i wz=>∃ (j:Nat),j≤N∧gg=N - j∧i = .int .i64 (j:Int)∧Hid (OwnK .i64 3 wz R0.heap.size r (itl ((l.take j).flatMap f)))∧Hid (Below R0.heap.size R0 wz))
   case atStart=>exact ⟨0,by omega,by omega,by first|rfl|simp,HO1,B1⟩
   case round=>
    obtain ⟨j,hj,hg2,rfl,HO2,hB2⟩:=hrel
    obtain ⟨R1,hR1⟩:∃ R1:World,R1=wr:=⟨_,rfl⟩
    subst hR1
    by_cases hjn:j < N
    ·have hj':(j:Int) < (N:Int):=by omega
     obtain ⟨q3,o3,rfl,hc3⟩:=HR.out.2 j hjn
     have hcell:=cell_low hc3 hB2.out
     rw [itl_getD,HF.out.2.2.1] at hcell
     have ha:=HLl.out j hjn
     obtain ⟨at_,ea⟩:∃ a,l.getD j 0=a:=⟨_,rfl⟩
     rw [ea] at hcell ha
     have HAt:Hid (l.getD j 0=at_):=ea
     have ha':(at_:Int)≤67108864:=by omega
     obtain ⟨A,eA⟩:∃ A,(l.take j).flatMap f=A:=⟨_,rfl⟩
     have hA:A.length=j*D:=by
      rw [← eA,← HF.out.1,flat_len,List.length_take,HF.out.2.2.2,Nat.min_eq_left hj]
     have hAD:A.length+D≤4096:=by
      have h1:=Nat.mul_le_mul (show j+1≤N by omega) (Nat.le_refl D)
      rw [HM.out,Nat.add_mul] at h1
      omega
     have HAA:Hid ((l.take j).flatMap f=A∧A.length+D≤4096):=⟨eA,hAD⟩
     rw [eA,show A=A++(List.range 0).map (fun n=>at_+n*st) by simp] at HO2
     clear ea hc3 eA hA hAD
     go_wp2_with fail
     go_loopg [8,32] D (fun gg r i wy=>∃ (m:Nat),m≤D∧gg=D - m∧i = .int .i64 (m:Int)∧Hid (OwnK .i64 3 wy R0.heap.size r (itl (A++(List.range m).map fun n=>at_+n*st)))∧Hid (Below R0.heap.size R0 wy))
     case atStart=>exact ⟨0,by omega,by omega,by first|rfl|simp,HO2,hB2⟩
     case round=>
      obtain ⟨m,hm,hg3,rfl,HO3,hB3⟩:=hrel
      obtain ⟨R2,hR2⟩:∃ R2:World,R2=wr:=⟨_,rfl⟩
      subst hR2
      by_cases hmn:m < D
      ·have hm':(m:Int) < (D:Int):=by omega
       have hcl:=cell_low HC2.out hB3.out
       obtain ⟨X,eX⟩:∃ X,at_+m*st=X:=⟨_,rfl⟩
       have hms:m*st≤16777216:=Nat.mul_le_mul (show m≤4096 by omega) (show st≤4096 by omega)
       obtain ⟨Y,eY⟩:∃ Y,m*st=Y:=⟨_,rfl⟩
       have eY':(m:Int)*(st:Int)=(Y:Int):=by rw [← Int.natCast_mul,eY]
       rw [eY] at eX hms
       have hY':(Y:Int)≤16777216:=by omega
       have eX':(at_:Int)+(Y:Int)=(X:Int):=by omega
       have HX:Hid (at_+m*st=X):=by show _=_;rw [eY];exact eX
       have H6:Hid (OwnK .i64 3 (R2.alloc (.cells #[.int .i64 (X:Int)] 3)) R0.heap.size u8 (itl (A++(List.range m).map fun n=>at_+n*st))):=HO3.out.up (up_alloc R2 _)
       have H6n:Hid (Nums .i64 (R2.alloc (.cells #[.int .i64 (X:Int)] 3)) (.slice (some ⟨R2.heap.size,0,none⟩) 1 1) [(X:Int)]):=nums_lit (k:=.i64) R2 [(X:Int)] 1 (0,0) rfl
       have H6b:Hid (Below R0.heap.size R0 (R2.alloc (.cells #[.int .i64 (X:Int)] 3))):=blit hB3.out _
       have H6l:Hid ((itl (A++(List.range m).map fun n=>at_+n*st)).length+[(X:Int)].length≤1073741824):=by
        show _≤_
        rw [itl_len,List.length_append,List.length_map,List.length_range,List.length_singleton]
        have:=HAA.out.2
        omega
       clear eX eY
       go_wp2_with (at_builtin;refine wpList_appendK numT (by decide) rfl (.tmp 35) (.tmp 44) rfl R0.heap.size _ _ rfl H6.out _ [(X:Int)] rfl H6n.out H6l.out H6b.out.size R0 H6b.out ?_;intro v0 w0 H0 B0)
       have H7:Hid (OwnK .i64 3 w0 R0.heap.size v0 (itl (A++(List.range (m+1)).map fun n=>at_+n*st))):=by
        show OwnK _ _ _ _ _ _
        rw [range_map_succ,← List.append_assoc,itl_app,HX.out]
        exact H0.out
       go_roundg (D - (m+1))
       case measure=>omega
       case rel=>exact ⟨m+1,by omega,rfl,by first|rfl|simp,H7,B0⟩
      ·obtain rfl:m=D:=by omega
       have H7:Hid (OwnK .i64 3 R2 R0.heap.size u8 (itl ((l.take (j+1)).flatMap f))):=by
        show OwnK _ _ _ _ _ _
        rw [flat_succ l f j (by rw [HF.out.2.2.2];exact hjn),HAA.out.1,HAt.out,← HF.out.1]
        exact HO3.out
       go_wp2
       go_roundg (N - (j+1))
       case measure=>omega
       case rel=>exact ⟨j+1,by omega,rfl,by first|rfl|simp,H7,hB3⟩
    ·obtain rfl:j=N:=by omega
     have H7:Hid (OwnK .i64 3 R1 w.heap.size u8 (itl (rowW d s (k+1)))):=by
      show OwnK _ _ _ _ _ _
      rw [HF.out.2.1]
      have:=HO2.out
      rw [List.take_of_length_le (by rw [HF.out.2.2.2];exact Nat.le_refl _)] at this
      exact this.low hB.out.size
     have H9:Hid (Below w.heap.size w R1):=bstep hB.out hB2.out
     go_wp2
     go_roundg (n2 - (k+1))
     case measure=>omega
     case rel=>exact ⟨k+1,by omega,rfl,by first|rfl|simp,H7,H9⟩
  ·obtain rfl:k=n2:=by omega
   have hfin:=HO.out
   have hw:=HL.out
   unfold walkN at hw
   rw [HD.out.2.2.2] at hw
   rw [hw] at hfin
   have HF:Hid (OwnK .i64 3 R0 w.heap.size _ L∧Below w.heap.size w R0):=⟨hfin,hB.out⟩
   clear hfin hw
   go_wp2
   go_ret
   exact ⟨_,rfl,HF.out⟩
theorem itl_set (l:List Nat) (j x:Nat):itl (l.set j x)=(itl l).set j (x:Int):=by unfold itl;rw [List.map_set]
theorem spread_any (u v:Value) (d big:List Nat) (hd:goodN d) (hb:goodN big) (hl:d.length≤big.length) (w:World) (hu:Nums .i64 w u (itl d)) (hv:Nums .i64 w v (itl big)):
  Calls Tryz.prog 133 #[u,v] w fun e w'=>∃ v',e = .returned v'∧OwnK .i64 3 w' w.heap.size v' (itl (spreadN d big))∧Below w.heap.size w w':=by
 have cs:∀ W,Below w.heap.size w W→Calls Tryz.prog 160 #[u] W fun e w'=>∃ v',e = .returned v'∧OwnK .i64 3 w' W.heap.size v' (itl (stridesN d))∧Below W.heap.size W w':=fun W hW=>by
  have:=strides_any u (itl d) (RI_itl hd.le) W (hu.up hW)
  rw [show stridesI (itl d)=itl (stridesN d) by unfold stridesI;rw [ntl_itl,if_pos hd]] at this
  exact this
 have HUV:Hid (Nums .i64 w u (itl d)∧Nums .i64 w v (itl big)):=⟨hu,hv⟩
 obtain ⟨p,n,c,rfl,HA⟩:=hu.lst
 obtain ⟨p2,n2,c2,rfl,HB⟩:=hv.lst
 have hdn:d.length=n:=by rw [← itl_len d];exact HA.out.1
 have hbn:big.length=n2:=by rw [← itl_len big];exact HB.out.1
 have hn:n≤n2:=by omega
 have hn4:n2≤4:=by rw [← hbn];exact hb.1
 have hn':(n:Int)≤(n2:Int):=by omega
 have hn4':(n2:Int)≤4:=by omega
 have HD:Hid (goodN d∧goodN big∧d.length=n∧big.length=n2):=⟨hd,hb,hdn,hbn⟩
 obtain ⟨L,eL⟩:∃ L,itl (spreadN d big)=L:=⟨_,rfl⟩
 have HL:Hid (itl (walkN big (stepK d n2 n))=L):=by show _=_;rw [← eL,← hbn,← hdn];rfl
 obtain ⟨ah,eah⟩:∃ ah,n2 - n=ah:=⟨_,rfl⟩
 have eah':(n2:Int) - (n:Int)=(ah:Int):=by omega
 have hah:ah≤4:=by omega
 rw [eL]
 clear eL hd hb hl hdn hbn hu hv
 go_enter Tryz.func133,Tryz.ntmps133
 go_wp2_with (at_make;refine wpList_makeK numT (by decide) _ rfl (.tmp 10) (.tmp 10) rfl .i64 .i64 n2 n2 n2 rfl rfl rfl rfl (by omega) w.heap.size w (Nat.le_refl _) (Below.refl _ _) ?_;intro w1 HO B0 B1;clear B0)
 rw [show List.replicate n2 (0:Int)=itl (stepK d n2 0) by unfold itl stepK;rw [List.map_replicate];rfl] at HO
 refine (cs w1 B1).mono ?_
 rintro e w2 ⟨vs,rfl,hs2,hB2⟩
 obtain ⟨p3,n3,c3,rfl,HS0⟩:=hs2.nums.lst
 obtain rfl:n3=n:=by rw [← HS0.out.1,itl_len,stridesN_len,HD.out.2.2.1]
 have HS:Hid (OwnK .i64 3 w2 w1.heap.size (.slice p3 n3 c3) (itl (stridesN d))):=hs2
 have HO2:Hid (OwnK .i64 3 w2 w.heap.size (.slice (some ⟨w.heap.size,0,none⟩) n2 n2) (itl (stepK d n2 0))):=HO.out.up hB2
 have HB2:Hid (Below w.heap.size w w2):=bstep B1 hB2
 have Hg:Hid (w.heap.size < w1.heap.size):=HO.out.size
 clear hs2 hB2 HO B1 cs HS0
 go_wp2_with fail
 go_loopg [20] n3 (fun gg i wr=>∃ (k:Nat),k≤n3∧gg=n3 - k∧i = .int .i64 (k:Int)∧Hid (OwnK .i64 3 wr w.heap.size (.slice (some ⟨w.heap.size,0,none⟩) n2 n2) (itl (stepK d n2 k)))∧Hid (Below w.heap.size w wr)∧Hid (Stay w.heap.size w2 wr))
 case atStart=>exact ⟨0,by omega,by omega,by first|rfl|simp,HO2,HB2,Stay.refl _ _⟩
 case round=>
  obtain ⟨k,hk,hg,rfl,HR,hB,hS⟩:=hrel
  by_cases hkn:k < n3
  ·have hk':(k:Int) < (n3:Int):=by omega
   have hs3:=(HS.out.nums.stay hS.out (HS.out.off Hg.out)).lst
   obtain ⟨p4,n4,c4,e4,HS4⟩:=hs3
   cases e4
   obtain ⟨q,o,rfl,hc1⟩:=HS4.out.2 k hkn
   obtain ⟨q2,o2,rfl,hc0⟩:=HA.out.2 k hkn
   have hc2:=cell_low hc0 hB.out
   rw [itl_getD] at hc1 hc2
   obtain ⟨st,es⟩:∃ st,(stridesN d).getD k 0=st:=⟨_,rfl⟩
   obtain ⟨D,eD⟩:∃ D,d.getD k 0=D:=⟨_,rfl⟩
   rw [es] at hc1
   rw [eD] at hc2
   have HE:Hid ((stridesN d).getD k 0=st∧d.getD k 0=D):=⟨es,eD⟩
   have hst:=strides_le HD.out.1 k
   rw [es] at hst
   have hst':(st:Int)≤4096:=by omega
   have hD:=HD.out.1.at k (by rw [HD.out.2.2.1];exact hkn)
   rw [eD] at hD
   have hD':1≤(D:Int)∧(D:Int)≤4096:=by omega
   clear es eD hc0 HS4 hst
   by_cases h1:1 < D
   ·have h1':(1:Int) < (D:Int):=by omega
    obtain ⟨j,ej⟩:∃ j,ah+k=j:=⟨_,rfl⟩
    have ej':(ah:Int)+(k:Int)=(j:Int):=by omega
    have hj:j < n2:=by omega
    have hj':(j:Int) < (n2:Int):=by omega
    have Hj:Hid (n2 - d.length+k=j):=by show _=_;rw [HD.out.2.2.1];omega
    obtain ⟨hown,hfz⟩:=HR.out.cell (by rw [itl_len,stepK_len]) j hj
    have H2:Hid (OwnK .i64 3 (wr.setCell ⟨w.heap.size,j,none⟩ (.int .i64 (st:Int))) w.heap.size (.slice (some ⟨w.heap.size,0,none⟩) n2 n2) (itl (stepK d n2 (k+1)))):=by
     have:=HR.out.store (by rw [itl_len,stepK_len]) j (st:Int)
     rw [← itl_set,← HE.out.1,← Hj.out] at this
     show OwnK _ _ _ _ _ _
     rw [stepK,if_pos (by rw [HE.out.2];exact h1),← HE.out.1,← Hj.out]
     exact this
    have HB3:Hid (Below w.heap.size w (wr.setCell ⟨w.heap.size,j,none⟩ (.int .i64 (st:Int)))):=hB.out.setCell (p:=⟨w.heap.size,j,none⟩) (Nat.le_refl _) _
    have HS3:Hid (Stay w.heap.size w2 (wr.setCell ⟨w.heap.size,j,none⟩ (.int .i64 (st:Int)))):=hS.out.set _ _
    clear ej
    go_wp2
    go_roundg (n3 - (k+1))
    case measure=>omega
    case rel=>exact ⟨k+1,by omega,rfl,by first|rfl|simp,H2,HB3,HS3⟩
   ·have h1':(D:Int)≤1:=by omega
    have H2:Hid (OwnK .i64 3 wr w.heap.size (.slice (some ⟨w.heap.size,0,none⟩) n2 n2) (itl (stepK d n2 (k+1)))):=by
     show OwnK _ _ _ _ _ _
     rw [stepK,if_neg (by rw [HE.out.2];exact h1)]
     exact HR.out
    go_wp2
    go_roundg (n3 - (k+1))
    case measure=>omega
    case rel=>exact ⟨k+1,by omega,rfl,by first|rfl|simp,H2,hB,hS⟩
  ·obtain rfl:k=n3:=by omega
   have cw:=walk_any _ _ big (stepK d n2 k) HD.out.2.1 (by rw [stepK_len,HD.out.2.2.2]) (stepK_le HD.out.1 n2 k) wr (HUV.out.2.up hB.out) HR.out.nums
   rw [HL.out] at cw
   go_wp2_with fail
   refine cw.mono ?_
   rintro e w5 ⟨v5,rfl,h5,hB5⟩
   have HF:Hid (OwnK .i64 3 w5 w.heap.size v5 L∧Below w.heap.size w w5):=⟨h5.low hB.out.size,bstep hB.out hB5⟩
   clear h5 hB5 cw
   go_wp2
   go_ret
   exact ⟨_,rfl,HF.out⟩
theorem cell_lt {W:World} {b o:Nat} {v:Value} (h:W.cell? ⟨b,o,none⟩=some v):b < W.heap.size:=cell_block (a:=⟨b,o,none⟩) h
/-- A struct of two values in a block, that may be stored into. -/
def Cel (W:World) (b:Nat) (s t:Value):Prop:=W.cell? ⟨b,0,none⟩=some s∧W.cell? ⟨b,1,none⟩=some t∧W.frozen? ⟨b,0,none⟩=false∧W.frozen? ⟨b,1,none⟩=false
theorem Cel.up {W W':World} {b:Nat} {s t:Value} (h:Cel W b s t) (hB:Below W.heap.size W W'):Cel W' b s t:=by
 have hb:=cell_lt h.1
 refine ⟨cell_low h.1 hB,cell_low h.2.1 hB,?_,?_⟩
 ·rw [hB.frozen (p:=⟨b,0,none⟩) hb];exact h.2.2.1
 ·rw [hB.frozen (p:=⟨b,1,none⟩) hb];exact h.2.2.2
theorem Cel.stay {g:Nat} {W W':World} {b:Nat} {s t:Value} (h:Cel W b s t) (hs:Stay g W W') (hg:b≠g):Cel W' b s t:=by
 have hb:=cell_lt h.1
 refine ⟨hs.cell h.1 hg,hs.cell h.2.1 hg,?_,?_⟩
 ·rw [hs.frozen hb hg];exact h.2.2.1
 ·rw [hs.frozen hb hg];exact h.2.2.2
theorem celW {V W0:World} {b:Nat} {s t:Value} (h:V=W0) (h2:V.cell? ⟨b,0,none⟩=some s∧V.cell? ⟨b,1,none⟩=some t∧V.frozen? ⟨b,0,none⟩=false∧V.frozen? ⟨b,1,none⟩=false):Hid (Cel W0 b s t):=h ▸ h2
theorem hidB {w V W0:World} (h:V=W0) (h2:Below w.heap.size w V):Hid (Below w.heap.size w W0):=h ▸ h2
theorem set_same {W:World} {p:Addr} {x v:Value} (h:W.cell? p=some v):(W.setCell p x).cell? p=some x:=World.cell?_setCell_same _ _ _ h
theorem set_off {W:World} {b i j:Nat} {x:Value} (hij:j≠i):(W.setCell ⟨b,i,none⟩ x).cell? ⟨b,j,none⟩=W.cell? ⟨b,j,none⟩:=World.cell?_setCell_other _ _ _ _ (by simp;try omega)
/-- The struct, stored. -/
abbrev set2 (W:World) (b:Nat) (s t:Value):World:=(W.setCell ⟨b,0,none⟩ s).setCell ⟨b,1,none⟩ t
theorem Cel.set {W:World} {b:Nat} {s t:Value} (h:Cel W b s t) (s' t':Value):Cel (set2 W b s' t') b s' t':=by
 refine ⟨?_,?_,?_,?_⟩
 ·show ((W.setCell ⟨b,0,none⟩ s').setCell ⟨b,1,none⟩ t').cell? ⟨b,0,none⟩=_
  rw [set_off (by omega)]
  exact set_same h.1
 ·exact set_same (by rw [set_off (by omega)];exact h.2.1)
 ·simp [h.2.2.1]
 ·simp [h.2.2.2]
theorem Stay.set2 {g:Nat} (W:World) (s t:Value):Stay g W (set2 W g s t):=((Stay.refl g W).set 0 s).set 1 t
theorem OwnK.off_new {k:IntKind} {e:TypeId} {W:World} {B g:Nat} {v:Value} {l:List Int} (h:OwnK k e W B v l) (hg:W.heap.size≤g):Off g v:=by
 intro ad n c ev
 rcases h.2 with ⟨h1,_⟩|⟨q,cap,cur,h1,h2,h3,_⟩
 ·rw [h1] at ev;cases ev
 ·rw [h1] at ev
  cases ev
  have:q < W.heap.size:=by
   rcases Nat.lt_or_ge q W.heap.size with h|h
   ·exact h
   ·rw [Array.getElem?_eq_none h] at h3;cases h3
  show q≠g
  omega
/-- What a call answers: a tensor in memory of its own. -/
def TRes (W:World) (B:Nat) (v:Value) (D X:List Int):Prop:=∃ s t,v = .agg #[s,t]∧OwnK .i64 3 W B s D∧OwnK .i64 23 W B t X
theorem TRes.none (W:World) (B:Nat):TRes W B (.agg #[.slice none 0 0,.slice none 0 0]) [] []:=⟨_,_,rfl,OwnK.nil _ _ _ _,OwnK.nil _ _ _ _⟩
theorem TRes.up {W W':World} {B:Nat} {v:Value} {D X:List Int} (h:TRes W B v D X) (hB:Below W.heap.size W W'):TRes W' B v D X:=by
 obtain ⟨s,t,e,h1,h2⟩:=h
 exact ⟨s,t,e,h1.up hB,h2.up hB⟩
theorem TRes.low {W:World} {B B':Nat} {v:Value} {D X:List Int} (h:TRes W B v D X) (hB:B'≤B):TRes W B' v D X:=by
 obtain ⟨s,t,e,h1,h2⟩:=h
 exact ⟨s,t,e,h1.low hB,h2.low hB⟩
theorem TRes.set {W:World} {B b:Nat} {s t:Value} {D X:List Int} (h1:OwnK .i64 3 W B s D) (h2:OwnK .i64 23 W B t X) (hb:b < B):TRes (set2 W b s t) B (.agg #[s,t]) D X:=
 ⟨s,t,rfl,h1.stay (Stay.set2 W s t) (h1.off hb),h2.stay (Stay.set2 W s t) (h2.off hb)⟩
theorem below_cell {w W:World} (h:Below w.heap.size w W) (b:Nat) (hb:w.heap.size≤b) (x y:Value):Below w.heap.size w (set2 W b x y):=below_set2 h b hb x y
theorem fin2 {w W0 W:World} {b:Nat} {s t s0 t0:Value} {D X:List Int} (XR:Hid (Cel W0 b s0 t0)) (HB0:Hid (Below w.heap.size w W0)) (hB:Below W0.heap.size W0 W) (hs:OwnK .i64 3 W W0.heap.size s D) (ht:OwnK .i64 23 W W0.heap.size t X) (hb:w.heap.size≤b):Hid (TRes (set2 W b s t) w.heap.size (.agg #[s,t]) D X∧Below w.heap.size w (set2 W b s t))∧W.cell? ⟨b,0,none⟩=some s0∧W.cell? ⟨b,1,none⟩=some t0∧W.frozen? ⟨b,0,none⟩=false∧W.frozen? ⟨b,1,none⟩=false∧(set2 W b s t).cell? ⟨b,0,none⟩=some s∧(set2 W b s t).cell? ⟨b,1,none⟩=some t:=by
 have xr:=XR.out.up hB
 have cf:=xr.set s t
 exact ⟨⟨(TRes.set hs ht (cell_lt XR.out.1)).low HB0.out.size,below_cell (bstep HB0.out hB) _ hb _ _⟩,xr.1,xr.2.1,xr.2.2.1,xr.2.2.2,cf.1,cf.2.1⟩
/-- Both spread and reckoned, number by number. -/
def eachE (d x d' y:List Int):Int:=if isP d x∧isP d' y then joinE d d' else 1
def eachD (d x d' y:List Int):List Int:=if isP d x∧isP d' y then joinL d d' else []
def eachV (op:Int→Int→Int) (d x d' y:List Int):List Int:=
 if (isP d x∧isP d' y)∧joinE d d'=0 then (List.range (prodN (ntl (joinL d d')))).map fun i=>op (x.getD (fromN (ntl d) (ntl (joinL d d')) i) 0) (y.getD (fromN (ntl d') (ntl (joinL d d')) i) 0) else []
theorem each_none {op:Int→Int→Int} {d x d' y:List Int} (h:¬ (isP d x∧isP d' y)):eachE d x d' y=1∧eachD d x d' y = []∧eachV op d x d' y = []:=⟨if_neg h,if_neg h,if_neg fun h'=>h h'.1⟩
theorem joinL_bad {a b:List Int} (h:joinE a b≠0):joinL a b = []:=by
 unfold joinL
 rw [if_neg]
 rintro ⟨h1,h2,h3,h4⟩
 apply h
 unfold joinE
 rw [if_pos ⟨h1,h2⟩,if_pos h3,if_pos h4]
theorem each_bad {op:Int→Int→Int} {d x d' y:List Int} (h:isP d x∧isP d' y) (hE:joinE d d'≠0):eachE d x d' y=joinE d d'∧eachD d x d' y = []∧eachV op d x d' y = []:=
 ⟨if_pos h,by unfold eachD;rw [if_pos h];exact joinL_bad hE,if_neg fun h'=>hE h'.2⟩
/-- Both fit: what stands where. -/
structure Joint (d x d' y:List Int) (a b J:List Nat):Prop where
 da:d=itl a
 db:d'=itl b
 ga:goodN a
 gb:goodN b
 gJ:goodN J
 jn:joinL d d'=itl J
 je:joinE d d'=0
 lx:x.length=prodN a
 ly:y.length=prodN b
 fa:fitsN a J
 ja:joinN a J=J
 fb:fitsN b J
 jb:joinN b J=J
theorem joint {d x d' y:List Int} (h:isP d x∧isP d' y) (hE:joinE d d'=0):∃ a b J,Joint d x d' y a b J:=by
 obtain ⟨h1,h2,h3,h4⟩:=joinE_zero hE
 obtain ⟨a,ga,rfl⟩:=good_itl h1
 obtain ⟨b,gb,rfl⟩:=good_itl h2
 rw [ntl_itl,ntl_itl] at h3 h4
 have hj:=(join_fine ga gb h3 h4).1
 have e1:=h.1.2
 have e2:=h.2.2
 rw [ntl_itl] at e1 e2
 refine ⟨a,b,joinN a b,rfl,rfl,ga,gb,h4,hj,hE,e1,e2,?_,?_,?_,?_⟩
 ·rw [fitsN_comm];exact fitsN_again ga.2.1 gb.2.1 h3
 ·rw [joinN_comm,joinN_again]
 ·rw [fitsN_comm,joinN_comm a b];exact fitsN_again gb.2.1 ga.2.1 ((fitsN_comm _ _).1 h3)
 ·rw [joinN_comm b,joinN_comm a b,joinN_again]
theorem Joint.E {op:Int→Int→Int} {d x d' y:List Int} {a b J:List Nat} (h:Joint d x d' y a b J):eachE d x d' y=0∧eachD d x d' y=itl J∧eachV op d x d' y=(List.range (prodN J)).map fun i=>op (x.getD (fromN a J i) 0) (y.getD (fromN b J i) 0):=by
 have hp:isP d x∧isP d' y:=by
  rw [h.da,h.db]
  unfold isP
  rw [ntl_itl,ntl_itl]
  exact ⟨⟨h.ga,h.lx⟩,h.gb,h.ly⟩
 refine ⟨?_,?_,?_⟩
 ·unfold eachE;rw [if_pos hp];exact h.je
 ·unfold eachD;rw [if_pos hp];exact h.jn
 ·unfold eachV
  rw [if_pos ⟨hp,h.je⟩,h.jn,ntl_itl]
  rw [h.da,h.db,ntl_itl,ntl_itl]
/-- A tensor that can be read. -/
def Tn (D X:List Int) (v:Value) (W:World):Prop:=∃ p n c p2 n2 c2,v = .agg #[.slice p n c,.slice p2 n2 c2]∧Nums .i64 W (.slice p n c) D∧Nums .i64 W (.slice p2 n2 c2) X
theorem Tn.up {D X:List Int} {v:Value} {W W':World} (h:Tn D X v W) (hB:Below W.heap.size W W'):Tn D X v W':=by
 obtain ⟨p,n,c,p2,n2,c2,e,h1,h2⟩:=h
 exact ⟨p,n,c,p2,n2,c2,e,h1.up hB,h2.up hB⟩
/-- A cell for a tensor, newly made. -/
def NewC (B:Nat) (v:Value) (W:World):Prop:=∃ b,v = .pointer (some ⟨b,0,none⟩)∧W.heap[b]?=some (.cells #[.slice none 0 0,.slice none 0 0] 64 (0,0))∧B≤b
theorem heap_lt {W:World} {b:Nat} {o:Obj} (h:W.heap[b]?=some o):b < W.heap.size:=by
 rcases Nat.lt_or_ge b W.heap.size with h'|h'
 ·exact h'
 ·rw [Array.getElem?_eq_none h'] at h;cases h
theorem NewC.up {B:Nat} {v:Value} {W W':World} (h:NewC B v W) (hB:Below W.heap.size W W'):NewC B v W':=by
 obtain ⟨b,e,h1,h2⟩:=h
 exact ⟨b,e,by rw [hB.block b (heap_lt h1)];exact h1,h2⟩
theorem new_cel {W:World} {b:Nat} {s t:Value} {e:TypeId} (h:W.heap[b]?=some (.cells #[s,t] e (0,0))):Cel W b s t:=by
 refine ⟨?_,?_,?_,?_⟩
 ·unfold World.cell?;simp [h]
 ·unfold World.cell?;simp [h]
 ·unfold World.frozen?;simp [h]
 ·unfold World.frozen?;simp [h]
theorem OwnK.off_type {k:IntKind} {e e':TypeId} {W:World} {B b:Nat} {v:Value} {l:List Int} {cs:Array Value} {fz:Nat×Nat} (h:OwnK k e W B v l) (hb:W.heap[b]?=some (.cells cs e' fz)) (hne:e≠e'):Off b v:=by
 intro ad n c ev
 rcases h.2 with ⟨h1,_⟩|⟨q,cap,cur,h1,h2,h3,_⟩
 ·rw [h1] at ev;cases ev
 ·rw [h1] at ev
  cases ev
  intro hq
  have hq:q=b:=hq
  subst hq
  rw [h3] at hb
  injection hb with hb
  injection hb with _ h5 _
  exact hne h5
/-- A tensor's copy. -/
def OwnT (B:Nat) (D X:List Int) (v:Value) (W:World):Prop:=∃ p n c p2 n2 c2,v = .agg #[.slice p n c,.slice p2 n2 c2]∧OwnK .i64 3 W B (.slice p n c) D∧OwnK .i64 23 W B (.slice p2 n2 c2) X
theorem OwnT.up {B:Nat} {D X:List Int} {v:Value} {W W':World} (h:OwnT B D X v W) (hB:Below W.heap.size W W'):OwnT B D X v W':=by
 obtain ⟨p,n,c,p2,n2,c2,e,h1,h2⟩:=h
 exact ⟨p,n,c,p2,n2,c2,e,h1.up hB,h2.up hB⟩
/-- A literal's row. -/
def LitN (l:List Int) (v:Value) (W:World):Prop:=∃ g,v = .slice (some ⟨g,0,none⟩) l.length l.length∧Nums .i64 W v l
theorem LitN.up {l:List Int} {v:Value} {W W':World} (h:LitN l v W) (hB:Below W.heap.size W W'):LitN l v W':=by
 obtain ⟨g,e,h1⟩:=h
 exact ⟨g,e,h1.up hB⟩
/-- A tensor's two literals. -/
def TupP (B:Nat) (D X:List Int) (E:Int) (v:Value) (W:World):Prop:=∃ u,v = .tuple #[u,.int .i64 E]∧OwnT B D X u W
theorem TupP.up {B:Nat} {D X:List Int} {E:Int} {v:Value} {W W':World} (h:TupP B D X E v W) (hB:Below W.heap.size W W'):TupP B D X E v W':=by
 obtain ⟨u,e,h1⟩:=h
 exact ⟨u,e,h1.up hB⟩
theorem TRes.own {W:World} {B:Nat} {v:Value} {D X:List Int} (h:TRes W B v D X):OwnT B D X v W:=by
 obtain ⟨s,t,rfl,h1,h2⟩:=h
 obtain ⟨p,n,c,rfl,_⟩:=h1.nums.lst
 obtain ⟨p2,n2,c2,rfl,_⟩:=h2.nums.lst
 exact ⟨p,n,c,p2,n2,c2,rfl,h1,h2⟩
/-- A slice has room for what it holds. -/
theorem OwnK.cap {k:IntKind} {e:TypeId} {W:World} {B n c:Nat} {p:Option Addr} {l:List Int} (h:OwnK k e W B (.slice p n c) l):n≤c:=by
 rcases h.2 with ⟨h1,_⟩|⟨q,cap,cur,h1,h2,h3,h4,_⟩
 ·cases h1
  exact Nat.le_refl _
 ·cases h1
  exact h4
theorem OwnK.obj {k:IntKind} {e:TypeId} {W:World} {B g n c:Nat} {l:List Int} (h:OwnK k e W B (.slice (some ⟨g,0,none⟩) n c) l):∃ cs fz,W.heap[g]?=some (.cells cs e fz):=by
 rcases h.2 with ⟨h1,_⟩|⟨q,cap,cur,h1,h2,h3,_⟩
 ·cases h1
 ·cases h1
  exact ⟨_,_,h3⟩
theorem good_two {D0 D1:Nat}:goodN (ntl [(D0:Int),(D1:Int)])↔1≤D0∧1≤D1∧D0*D1≤4096:=by
 have en:ntl [(D0:Int),(D1:Int)] = [D0,D1]:=ntl_itl [D0,D1]
 rw [en]
 constructor
 ·intro h
  exact ⟨h.2.1 _ (by simp),h.2.1 _ (by simp),by have:=h.2.2;simpa [prodN] using this⟩
 ·rintro ⟨a,b,c⟩
  exact ⟨by simp,fun y hy=>by simp at hy;omega,by simpa [prodN] using c⟩
theorem le_side {a b:Nat} (h:a*b≤4096) (ha:1≤a) (hb:1≤b):a≤4096∧b≤4096:=⟨by have:=Nat.mul_le_mul_left a hb;omega,by have:=Nat.mul_le_mul_right b ha;omega⟩
/-- A tensor that can be read, with room for its numbers. -/
def TnC (D X:List Int) (v:Value) (W:World):Prop:=∃ p n c p2 n2 c2,v = .agg #[.slice p n c,.slice p2 n2 c2]∧Nums .i64 W (.slice p n c) D∧Nums .i64 W (.slice p2 n2 c2) X∧n2≤c2
theorem TnC.up {D X:List Int} {v:Value} {W W':World} (h:TnC D X v W) (hB:Below W.heap.size W W'):TnC D X v W':=by
 obtain ⟨p,n,c,p2,n2,c2,e,h1,h2,h3⟩:=h
 exact ⟨p,n,c,p2,n2,c2,e,h1.up hB,h2.up hB,h3⟩
theorem two_sides {d x:List Int} (h:isP d x) (h2:d.length=2):∃ D0 D1:Nat,d = [(D0:Int),(D1:Int)]∧x.length=D0*D1∧1≤D0∧1≤D1∧D0*D1≤4096:=by
 obtain ⟨a,ga,rfl⟩:=good_itl h.1
 have hx:=h.2
 rw [ntl_itl] at hx
 rw [itl_len] at h2
 match a,h2 with
 | [D0,D1],_=>
  have e:prodN [D0,D1]=D0*D1:=by simp [prodN]
  rw [e] at hx
  refine ⟨D0,D1,rfl,hx,ga.2.1 _ (by simp),ga.2.1 _ (by simp),?_⟩
  have:=ga.2.2
  rw [e] at this
  exact this
theorem three_sides {d x:List Int} (h:isP d x) (h2:d.length=3):∃ D0 D1 D2:Nat,d = [(D0:Int),(D1:Int),(D2:Int)]∧x.length=D0*D1*D2∧1≤D0∧1≤D1∧1≤D2∧D0*D1*D2≤4096:=by
 obtain ⟨a,ga,rfl⟩:=good_itl h.1
 have hx:=h.2
 rw [ntl_itl] at hx
 rw [itl_len] at h2
 match a,h2 with
 | [D0,D1,D2],_=>
  have e:prodN [D0,D1,D2]=D0*D1*D2:=by simp [prodN,Nat.mul_assoc]
  rw [e] at hx
  refine ⟨D0,D1,D2,rfl,hx,ga.2.1 _ (by simp),ga.2.1 _ (by simp),ga.2.1 _ (by simp),?_⟩
  have:=ga.2.2
  rw [e] at this
  exact this
theorem prod_two (a b:Nat):prodN (ntl [(a:Int),(b:Int)])=a*b:=by rw [show ntl [(a:Int),(b:Int)] = [a,b] from ntl_itl [a,b]];simp [prodN]
theorem prod_three (a b c:Nat):prodN (ntl [(a:Int),(b:Int),(c:Int)])=a*b*c:=by rw [show ntl [(a:Int),(b:Int),(c:Int)] = [a,b,c] from ntl_itl [a,b,c]];simp [prodN,Nat.mul_assoc]
end Go.Proofs.YtjlofobnmjompaaGreatDoor.Wd
namespace Go.Proofs.YtjlofobnmjompaaGreatDoor.Wd
open Go.RowKit Fx
/-- Blocks of other types than these stand. -/
def Only (S:List TypeId) (W W':World):Prop:=W.heap.size≤W'.heap.size∧∀ k,k < W.heap.size→(∀ cs e fz,W.heap[k]?=some (.cells cs e fz)→e∉S)→W'.heap[k]?=W.heap[k]?
theorem Only.refl (S:List TypeId) (W:World):Only S W W:=⟨Nat.le_refl _,fun _ _ _=>rfl⟩
theorem Only.trans {S:List TypeId} {a b c:World} (h:Only S a b) (h2:Only S b c):Only S a c:=⟨Nat.le_trans h.1 h2.1,fun k hk hp=>by
 have e:=h.2 k hk hp
 rw [h2.2 k (Nat.lt_of_lt_of_le hk h.1) (by rw [e];exact hp),e]⟩
theorem Only.of {S:List TypeId} {a b:World} (h:Below a.heap.size a b):Only S a b:=⟨h.size,fun k hk _=>h.block k hk⟩
theorem Only.up {S:List TypeId} {a b c:World} (h:Only S a b) (h2:Below b.heap.size b c):Only S a c:=h.trans (Only.of h2)
theorem Only.more {S S':List TypeId} {a b:World} (h:Only S a b) (hs:∀ e,e∈S→e∈S'):Only S' a b:=⟨h.1,fun k hk hp=>h.2 k hk fun cs e fz he hm=>hp cs e fz he (hs e hm)⟩
theorem Only.keep {S:List TypeId} {a b:World} (h:Only S a b) {k:Nat} {cs:Array Value} {e:TypeId} {fz:Nat×Nat} (hk:a.heap[k]?=some (.cells cs e fz)) (he:e∉S):b.heap[k]?=some (.cells cs e fz):=by
 rw [h.2 k (heap_lt hk) (fun cs' e' fz' h'=>by rw [hk] at h';cases h';exact he)]
 exact hk
theorem Only.grown {S:List TypeId} {a b:World} {row:Option Nat} (h:a.grownBy b row) (hr:∀ k,row=some k→∃ cs e fz,a.heap[k]?=some (.cells cs e fz)∧e∈S):Only S a b:=⟨h.size,fun k hk hp=>h.block k hk fun e=>by
 obtain ⟨cs,e',fz,h1,h2⟩:=hr k e.symm
 exact hp cs e' fz h1 h2⟩
theorem heap_set (W:World) (b o:Nat) (x:Value) (k:Nat) (h:k≠b):(W.setCell ⟨b,o,none⟩ x).heap[k]?=W.heap[k]?:=by
 unfold World.setCell
 simp [Array.getElem?_modify,Ne.symm h]
theorem heap_setat {W:World} {b o:Nat} {x:Value} {cs:Array Value} {e:TypeId} {fz:Nat×Nat} (h:W.heap[b]?=some (.cells cs e fz)):(W.setCell ⟨b,o,none⟩ x).heap[b]?=some (.cells (cs.setIfInBounds o x) e fz):=by
 unfold World.setCell
 simp [Array.getElem?_modify,h]
theorem Only.set {S:List TypeId} {W:World} {b o:Nat} {x:Value} {cs:Array Value} {e:TypeId} {fz:Nat×Nat} (h:W.heap[b]?=some (.cells cs e fz)) (he:e∈S):Only S W (W.setCell ⟨b,o,none⟩ x):=⟨by simp,fun k hk hp=>heap_set W b o x k fun hkb=>by
 subst hkb
 exact hp cs e fz h he⟩
theorem OwnK.only {k:IntKind} {e:TypeId} {S:List TypeId} {W W':World} {B:Nat} {v:Value} {l:List Int} (h:OwnK k e W B v l) (ho:Only S W W') (he:e∉S):OwnK k e W' B v l:=by
 refine ⟨h.1,?_⟩
 rcases h.2 with hn|⟨g,cap,cur,hv,hb,hg,rest⟩
 ·exact .inl hn
 ·exact .inr ⟨g,cap,cur,hv,hb,ho.keep hg he,rest⟩
/-- A node, as the document has it. -/
structure Nd where
 op:Int
 a:Int
 b:Int
 k:Int
 D:List Int
 X:List Int
/-- A node's six cells. -/
def NdC (W:World) (B:Nat) (nd:Nd) (u:List Value):Prop:=∃ s t,u = [.int .i64 nd.op,.int .i64 nd.a,.int .i64 nd.b,.int .i64 nd.k,s,t]∧OwnK .i64 3 W B s nd.D∧OwnK .i64 23 W B t nd.X
def NdsC (W:World) (B:Nat) (ns:List Nd) (xs:List Value):Prop:=xs.length=ns.length*6∧∀ i nd,ns[i]?=some nd→NdC W B nd ((xs.drop (i*6)).take 6)
theorem NdC.only {S:List TypeId} {W W':World} {B:Nat} {nd:Nd} {u:List Value} (h:NdC W B nd u) (ho:Only S W W') (h1:3∉S) (h2:23∉S):NdC W' B nd u:=by
 obtain ⟨s,t,e,hs,ht⟩:=h
 exact ⟨s,t,e,hs.only ho h1,ht.only ho h2⟩
theorem NdsC.only {S:List TypeId} {W W':World} {B:Nat} {ns:List Nd} {xs:List Value} (h:NdsC W B ns xs) (ho:Only S W W') (h1:3∉S) (h2:23∉S):NdsC W' B ns xs:=⟨h.1,fun i nd hn=>(h.2 i nd hn).only ho h1 h2⟩
theorem NdC.len {W:World} {B:Nat} {nd:Nd} {u:List Value} (h:NdC W B nd u):u.length=6:=by
 obtain ⟨s,t,rfl,_⟩:=h
 rfl
theorem NdC.one {W:World} {B:Nat} {nd:Nd} {u:List Value} (h:NdC W B nd u):∀ x∈u,x.oneCell'=true:=by
 obtain ⟨s,t,rfl,hs,ht⟩:=h
 obtain ⟨_,_,_,rfl,_⟩:=hs.nums.lst
 obtain ⟨_,_,_,rfl,_⟩:=ht.nums.lst
 intro x hx
 simp only [List.mem_cons,List.not_mem_nil,or_false] at hx
 rcases hx with rfl|rfl|rfl|rfl|rfl|rfl <;> rfl
theorem NdsC.push {W:World} {B:Nat} {ns:List Nd} {xs:List Value} {nd:Nd} {u:List Value} (h:NdsC W B ns xs) (hu:NdC W B nd u):NdsC W B (ns++[nd]) (xs++u):=by
 have hl:=hu.len
 refine ⟨by rw [List.length_append,List.length_append,h.1,hl];simp;omega,fun i x hi=>?_⟩
 by_cases hlt:i < ns.length
 ·rw [List.getElem?_append_left hlt] at hi
  have:=h.2 i x hi
  rw [List.drop_append_of_le_length (by rw [h.1];omega),List.take_append_of_le_length (by rw [List.length_drop,h.1];omega)]
  exact this
 ·rw [List.getElem?_append_right (by omega)] at hi
  obtain hi0:i=ns.length:=by
   rcases Nat.eq_or_lt_of_le (Nat.le_of_not_lt hlt) with e|e
   ·exact e.symm
   ·rw [List.getElem?_eq_none (by simp;omega)] at hi
    cases hi
  subst hi0
  rw [Nat.sub_self] at hi
  cases hi
  rw [← h.1,List.drop_left,List.take_of_length_le (by omega)]
  exact hu
theorem NdsC.nil (W:World) (B:Nat):NdsC W B [] []:=⟨rfl,fun i nd h=>by simp at h⟩
/-- A tape: a block with one cell, the row of its nodes. -/
def Tap (TT NT:TypeId) (W:World) (B b:Nat) (ns:List Nd):Prop:=B≤b∧∃ v xs,W.heap[b]?=some (.cells #[v] TT (0,0))∧W.ownsRow B NT 6 v ns.length xs∧NdsC W B ns xs
theorem owns_only {S:List TypeId} {W W':World} {B n s:Nat} {e:TypeId} {v:Value} {xs:List Value} (h:W.ownsRow B e s v n xs) (ho:Only S W W') (he:e∉S):W'.ownsRow B e s v n xs:=by
 refine ⟨h.1,?_⟩
 rcases h.2 with hn|⟨g,cap,cur,hv,hb,hg,rest⟩
 ·exact .inl hn
 ·exact .inr ⟨g,cap,cur,hv,hb,ho.keep hg he,rest⟩
theorem Tap.only {TT NT:TypeId} {S:List TypeId} {W W':World} {B b:Nat} {ns:List Nd} (h:Tap TT NT W B b ns) (ho:Only S W W') (h1:TT∉S) (h2:NT∉S) (h3:3∉S) (h4:23∉S):Tap TT NT W' B b ns:=by
 obtain ⟨hb,v,xs,hv,ho2,hn⟩:=h
 exact ⟨hb,v,xs,ho.keep hv h1,owns_only ho2 ho h2,hn.only ho h3 h4⟩
theorem Tap.up {TT NT:TypeId} {W W':World} {B b:Nat} {ns:List Nd} (h:Tap TT NT W B b ns) (hB:Below W.heap.size W W'):Tap TT NT W' B b ns:=h.only (S:=[]) (Only.of hB) (by simp) (by simp) (by simp) (by simp)
theorem Tap.new {TT NT:TypeId} {W:World} {B:Nat} (hB:B≤W.heap.size):Tap TT NT (W.alloc (.cells #[.slice none 0 0] TT)) B W.heap.size []:=
 ⟨hB,_,[],heap_alloc_new W _,World.ownsRow_nil _ _ _ _,NdsC.nil _ _⟩
theorem owned_off {TT NT:TypeId} (hne:NT≠TT) {W:World} {B b n s:Nat} {v v':Value} {xs:List Value} (hb:W.heap[b]?=some (.cells #[v'] TT (0,0))) (h:W.ownsRow B NT s v n xs):v.ownBlock≠some b:=by
 rcases h.2 with ⟨rfl,_⟩|⟨g,cap,cur,rfl,_,hg,_⟩
 ·simp [Value.ownBlock]
 ·intro e
  simp [Value.ownBlock] at e
  subst e
  rw [hb] at hg
  cases hg
  exact hne rfl
/-- A node more: the row was made longer, then the tape's cell was written. -/
theorem Tap.push {TT NT:TypeId} (hne:NT≠TT) (n1:3∉[TT,NT]) (n2:23∉[TT,NT]) {W W':World} {B b:Nat} {ns:List Nd} {v v':Value} {xs u:List Value} {nd:Nd} (hB:B≤b)
  (hv:W.heap[b]?=some (.cells #[v] TT (0,0))) (ho:W.ownsRow B NT 6 v ns.length xs) (hn:NdsC W B ns xs) (hu:NdC W B nd u) (hg:W.grownBy W' v.ownBlock) (ho':W'.ownsRow B NT 6 v' (ns.length+1) (xs++u)):
  Tap TT NT (W'.setCell ⟨b,0,none⟩ v') B b (ns++[nd])∧Only [TT,NT] W (W'.setCell ⟨b,0,none⟩ v'):=by
 have hrow:∀ k,v.ownBlock=some k→∃ cs e fz,W.heap[k]?=some (.cells cs e fz)∧e∈[TT,NT]:=fun k hk=>by
  rcases ho.2 with ⟨rfl,_⟩|⟨g,cap,cur,rfl,_,hg2,_⟩
  ·simp [Value.ownBlock] at hk
  ·simp [Value.ownBlock] at hk
   subst hk
   exact ⟨_,_,_,hg2,by simp⟩
 have o1:Only [TT,NT] W W':=Only.grown hg hrow
 have hv1:W'.heap[b]?=some (.cells #[v] TT (0,0)):=by
  rw [hg.block b (heap_lt hv) (Ne.symm (owned_off hne hv ho))]
  exact hv
 have o2:Only [TT,NT] W' (W'.setCell ⟨b,0,none⟩ v'):=Only.set hv1 (by simp)
 have o3:Only [TT] W' (W'.setCell ⟨b,0,none⟩ v'):=Only.set hv1 (by simp)
 refine ⟨⟨hB,v',xs++u,?_,?_,?_⟩,o1.trans o2⟩
 ·rw [heap_setat hv1]
  rfl
 ·rw [List.length_append]
  exact owns_only ho' o3 (by simp;exact hne)
 ·exact ((hn.push hu).only o1 n1 n2).only o2 n1 n2
/-- What a walk reads of a tape. -/
theorem Tap.head {TT NT:TypeId} {W:World} {B b:Nat} {ns:List Nd} (h:Tap TT NT W B b ns):∃ p c xs,W.heap[b]?=some (.cells #[.slice p ns.length c] TT (0,0))∧W.ownsRow B NT 6 (.slice p ns.length c) ns.length xs∧NdsC W B ns xs∧ns.length≤c:=by
 obtain ⟨hb,v,xs,hv,ho,hn⟩:=h
 rcases ho.2 with ⟨rfl,h0⟩|⟨g,cap,cur,rfl,hbg,hg,hc,rest⟩
 ·rw [h0] at ho
  have hns:ns = []:=List.eq_nil_of_length_eq_zero h0
  subst hns
  exact ⟨none,0,xs,hv,ho,hn,Nat.le_refl _⟩
 ·exact ⟨_,_,xs,hv,ho,hn,hc⟩
theorem head_cell {W:World} {b:Nat} {v:Value} {e:TypeId} (h:W.heap[b]?=some (.cells #[v] e (0,0))):W.cell? ⟨b,0,none⟩=some v∧W.frozen? ⟨b,0,none⟩=false:=by
 unfold World.cell? World.frozen?
 simp [h]
/-- A node's cells, one by one. -/
theorem node_cells {NT:TypeId} {W:World} {B:Nat} {ns:List Nd} {p:Option Addr} {c n:Nat} {xs:List Value} (ho:W.ownsRow B NT 6 (.slice p n c) n xs) (hn:NdsC W B ns xs) (hl:ns.length=n) (i:Nat) (hi:i < n):
  ∃ q nd s t,p=some ⟨q,0,none⟩∧ns[i]?=some nd∧W.cell? ⟨q,i*6,none⟩=some (.int .i64 nd.op)∧W.cell? ⟨q,i*6+1,none⟩=some (.int .i64 nd.a)∧W.cell? ⟨q,i*6+2,none⟩=some (.int .i64 nd.b)∧W.cell? ⟨q,i*6+3,none⟩=some (.int .i64 nd.k)∧W.cell? ⟨q,i*6+4,none⟩=some s∧W.cell? ⟨q,i*6+5,none⟩=some t
   ∧ OwnK .i64 3 W B s nd.D∧OwnK .i64 23 W B t nd.X:=by
 have hnd:ns[i]?=some (ns[i]'(by omega)):=List.getElem?_eq_getElem _
 obtain ⟨s,t,e,hs,ht⟩:=hn.2 i _ hnd
 have hx:∀ j u,((xs.drop (i*6)).take 6)[j]?=some u→xs[i*6+j]?=some u:=fun j u h=>by
  rw [List.getElem?_take] at h
  split at h
  ·rw [List.getElem?_drop] at h
   exact h
  ·cases h
 rw [e] at hx
 rcases ho.2 with ⟨h0,h1⟩|⟨g,cap,cur,hv,hb,hg,rest⟩
 ·omega
 ·cases hv
  have hc:∀ j u,xs[j]?=some u→W.cell? ⟨g,j,none⟩=some u:=fun j u h=>by
   have:=ho.cells (g:=g) rfl j u h
   rw [addr_plus,Nat.zero_add] at this
   exact this
  exact ⟨g,_,s,t,rfl,hnd,hc _ _ (hx 0 _ rfl),hc _ _ (hx 1 _ rfl),hc _ _ (hx 2 _ rfl),hc _ _ (hx 3 _ rfl),hc _ _ (hx 4 _ rfl),hc _ _ (hx 5 _ rfl),hs,ht⟩
/-- A slice's type whose elements are nodes. -/
structure StT (P:Program) (t e:TypeId) (b:Nat):Prop where
 ht:P.underlying t=some (.slice e)
 hi:(P.info? e).map (fun i=>(i.zero.map fun z=>z.cells.size,i.size,i.bytes))=some (some 6,6,b)
/-- A literal's block of one node. -/
def LitS (e:TypeId) (B:Nat) (u:List Value) (v:Value) (W:World):Prop:=∃ g,v = .slice (some ⟨g,0,none⟩) 1 1∧W.heap[g]?=some (.cells u.toArray e (0,0))∧B≤g
theorem LitS.up {e:TypeId} {B:Nat} {u:List Value} {v:Value} {W W':World} (h:LitS e B u v W) (hB:Below W.heap.size W W'):LitS e B u v W':=by
 obtain ⟨g,e1,h1,h2⟩:=h
 exact ⟨g,e1,by rw [hB.block g (heap_lt h1)];exact h1,h2⟩
theorem LitS.grown {e:TypeId} {B:Nat} {u:List Value} {v:Value} {W W':World} {r:Option Nat} (h:LitS e B u v W) (hg:W.grownBy W' r) (hr:∀ k,r=some k→k < B):LitS e B u v W':=by
 obtain ⟨g,e1,h1,h2⟩:=h
 refine ⟨g,e1,?_,h2⟩
 rw [hg.block g (heap_lt h1) (fun e=>by have:=hr g e.symm;omega)]
 exact h1
/-- A row of nodes of one's own. -/
def OwnN (e:TypeId) (B n:Nat) (xs:List Value) (v:Value) (W:World):Prop:=W.ownsRow B e 6 v n xs
theorem OwnN.up {e:TypeId} {B n:Nat} {xs:List Value} {v:Value} {W W':World} (h:OwnN e B n xs v W) (hB:Below W.heap.size W W'):OwnN e B n xs v W':=owns_only (S:=[]) h (Only.of hB) (by simp)
theorem grown_up {a b c:World} {r:Option Nat} (h:a.grownBy b r) (h2:Below b.heap.size b c):a.grownBy c r:=⟨h2.os.trans h.os,h2.tape.trans h.tape,h2.output.trans h.output,Nat.le_trans h.size h2.size,fun k hk hr=>(h2.block k (Nat.lt_of_lt_of_le hk h.size)).trans (h.block k hk hr)⟩
theorem below_grown {a b:World} (r:Option Nat) (h:Below a.heap.size a b):a.grownBy b r:=⟨h.os,h.tape,h.output,h.size,fun k hk _=>h.block k hk⟩
theorem grown_trans {a b c:World} {r:Option Nat} (h:a.grownBy b r) (h2:b.grownBy c r):a.grownBy c r:=⟨h2.os.trans h.os,h2.tape.trans h.tape,h2.output.trans h.output,Nat.le_trans h.size h2.size,fun k hk hr=>(h2.block k (Nat.lt_of_lt_of_le hk h.size) hr).trans (h.block k hk hr)⟩
end Go.Proofs.YtjlofobnmjompaaGreatDoor.Wd
namespace Go.Proofs
open Go.Shelf
def Tryz.lays134_ren:Go.Shelf.Ren:=⟨fun|134=>191|129=>195|n=>n,fun|53=>43|3=>3|4=>4|46=>116|5=>5|9=>9|n=>n,fun|n=>n⟩
theorem Tryz.lays134:Go.Proofs.Lays.n134 Tryz.prog Tryz.lays134_ren:={
 mixed:=by kernel_rfl
 f129:=Tryz.func195.trans (congrArg some (by kernel_rfl))
 f134:=Tryz.func191.trans (congrArg some (by kernel_rfl))
 t3:=Tryz.underlying3
 a3:=Tryz.isAgg3
 z3:=Tryz.sizeOf3
 v3:=Tryz.zeroValue3
 t4:=Tryz.underlying4
 a4:=Tryz.isAgg4
 z4:=Tryz.sizeOf4
 v4:=Tryz.zeroValue4
 t5:=Tryz.underlying5
 a5:=Tryz.isAgg5
 z5:=Tryz.sizeOf5
 v5:=Tryz.zeroValue5
 t9:=Tryz.underlying9
 a9:=Tryz.isAgg9
 z9:=Tryz.sizeOf9
 v9:=Tryz.zeroValue9
 t46:=Tryz.underlying116
 a46:=Tryz.isAgg116
 z46:=Tryz.sizeOf116
 v46:=Tryz.zeroValue116
 t53:=Tryz.underlying43
 a53:=Tryz.isAgg43
 z53:=Tryz.sizeOf43
 v53:=Tryz.zeroValue43 }
theorem Tryz.bits_LeadingZeros64 (x:Int) (w:World) (h0:0≤x) (h1:x≤18446744073709551615):
  Calls Tryz.prog 191 #[.int .u64 x] w fun e w'=>e = .returned (.int .i64 (64 - (Lib.bitLen x.toNat:Int)))∧w'=w:=Any.bits_LeadingZeros64 Tryz.lays134 x w h0 h1
def Tryz.lays264_ren:Go.Shelf.Ren:=⟨fun|264=>130|n=>n,fun|53=>43|46=>116|n=>n,fun|n=>n⟩
theorem Tryz.lays264:Go.Proofs.Lays.n264 Tryz.prog Tryz.lays264_ren:={
 mixed:=by kernel_rfl
 f264:=Tryz.func130.trans (congrArg some (by kernel_rfl))
 t46:=Tryz.underlying116
 a46:=Tryz.isAgg116
 z46:=Tryz.sizeOf116
 v46:=Tryz.zeroValue116
 t53:=Tryz.underlying43
 a53:=Tryz.isAgg43
 z53:=Tryz.sizeOf43
 v53:=Tryz.zeroValue43 }
open Go.RowKit Go.Lib in
theorem Tryz.bits_Mul64 (x y:Nat) (hx:x < 18446744073709551616) (hy:y < 18446744073709551616) (w:World):
  Calls Tryz.prog 130 #[.int .u64 x,.int .u64 y] w fun e w'=>e = .returned (.tuple #[.int .u64 ((x*y / 18446744073709551616:Nat):Int),.int .u64 ((x*y % 18446744073709551616:Nat):Int)])∧w'=w:=Any.bits_Mul64 Tryz.lays264 x y hx hy w
def Tryz.lays212_ren:Go.Shelf.Ren:=⟨fun|212=>102|263=>129|264=>130|n=>n,fun|46=>116|51=>191|146=>192|53=>43|148=>80|n=>n,fun|n=>n⟩
theorem Tryz.lays212:Go.Proofs.Lays.n212 Tryz.prog Tryz.lays212_ren:={
 mixed:=by kernel_rfl
 f212:=Tryz.func102.trans (congrArg some (by kernel_rfl))
 f263:=Tryz.func129.trans (congrArg some (by kernel_rfl))
 f264:=Tryz.func130.trans (congrArg some (by kernel_rfl))
 t46:=Tryz.underlying116
 a46:=Tryz.isAgg116
 z46:=Tryz.sizeOf116
 v46:=Tryz.zeroValue116
 t51:=Tryz.underlying191
 a51:=Tryz.isAgg191
 z51:=Tryz.sizeOf191
 v51:=Tryz.zeroValue191
 t53:=Tryz.underlying43
 a53:=Tryz.isAgg43
 z53:=Tryz.sizeOf43
 v53:=Tryz.zeroValue43
 t146:=Tryz.underlying192
 a146:=Tryz.isAgg192
 z146:=Tryz.sizeOf192
 v146:=Tryz.zeroValue192
 t148:=Tryz.underlying80
 a148:=Tryz.isAgg80
 z148:=Tryz.sizeOf80
 v148:=Tryz.zeroValue80 }
open Go.RowKit Go.Lib in
theorem Tryz.bits_Mul (x y:Nat) (hx:x < 18446744073709551616) (hy:y < 18446744073709551616) (w:World):
  Calls Tryz.prog 102 #[.int .u64 x,.int .u64 y] w fun e w'=>e = .returned (.tuple #[.int .u64 ((x*y / 18446744073709551616:Nat):Int),.int .u64 ((x*y % 18446744073709551616:Nat):Int)])∧w'=w:=Any.bits_Mul Tryz.lays212 x y hx hy w
end Go.Proofs
namespace Go.Proofs.YtjlofobnmjompaaGreatDoor.Fx
open Go.RowKit
theorem ret_int {k:IntKind} {a b:Int} (h:a=b):Ending.returned (.int k a) = .returned (.int k b):=by rw [h]
theorem bound_any (b:Bool) (w:World):
  Calls Tryz.prog 147 #[.bool b] w fun e w'=>e = .returned (.int .i64 (lim b))∧w'=w:=by
 cases b
 all_goals
  go_enter Tryz.func147,Tryz.ntmps147
  go_wp2
  go_ret
  exact ⟨rfl,rfl⟩
theorem size_any (a:Int) (n:Nat) (ha:InR a) (hn:a.natAbs=n) (w:World):
  Calls Tryz.prog 162 #[.int .i64 a] w fun e w'=>e = .returned (.int .u64 n)∧w'=w:=by
 unfold InR at ha
 have H:Hid (a.natAbs=n):=hn
 clear hn
 by_cases h:a < 0
 all_goals
  go_enter Tryz.func162,Tryz.ntmps162
  go_wp2
  go_ret
  refine ⟨ret_int ?_,rfl⟩
  have hn:=H.out
  try simp only [IntKind.wrap_u64]
  omega
theorem held_any (b:Bool) (n:Nat) (hn:n < 18446744073709551616) (w:World):
  Calls Tryz.prog 163 #[.bool b,.int .u64 n] w fun e w'=>e = .returned (.int .i64 (hold (sg b n)))∧w'=w:=by
 by_cases h:9223372036854775807 < n
 ·go_enter Tryz.func163,Tryz.ntmps163
  go_wp2_with (go_at_call 147;refine (bound_any _ _).mono ?_;rintro e w' ⟨rfl,rfl⟩)
  go_ret
  exact ⟨ret_int (held_far b n h),rfl⟩
 ·cases b
  all_goals
   go_enter Tryz.func163,Tryz.ntmps163
   go_wp2
   go_ret
   first|exact ⟨ret_int (held_up n (by omega)),rfl⟩|exact ⟨ret_int (held_down n (by omega)),rfl⟩
theorem nearest_any (q r d:Nat) (hq:q < 18446744073709551615) (hr:r < d) (hd:d≤9223372036854775808) (w:World):
  Calls Tryz.prog 184 #[.int .u64 q,.int .u64 r,.int .u64 d] w fun e w'=>e = .returned (.int .u64 (nr q r d:Nat))∧w'=w:=by
 go_enter Tryz.func184,Tryz.ntmps184
 go_wp2
 all_goals
  go_ret
  refine ⟨ret_int ?_,rfl⟩
  try simp only [beq_iff_eq,beq_eq_false_iff_ne,ne_eq] at *
  unfold nr
  split <;> omega
theorem byParts_any (hi lo:Nat) (h1:hi < 2147483648) (h2:lo < 18446744073709551616) (w:World):
  Calls Tryz.prog 164 #[.int .u64 hi,.int .u64 lo] w fun e w'=>e = .returned (.int .u64 (rq (hi*18446744073709551616+lo) 4294967296:Nat))∧w'=w:=by
 go_enter Tryz.func164,Tryz.ntmps164
 go_wp2_with fail
 rw [joinN hi lo (by omega) h2,maskN lo h2]
 have c:=nearest_any (hi*4294967296+lo / 4294967296) (lo % 4294967296) 4294967296 (by omega) (by omega) (by omega) w
 rw [show ((4294967296:Nat):Int)=4294967296 from rfl] at c
 refine c.mono ?_
 rintro e w' ⟨rfl,rfl⟩
 go_wp2
 go_ret
 refine ⟨ret_int ?_,rfl⟩
 rw [← rq_nr,parts_q,parts_r]
theorem of_any (n:Int) (hn:InR n) (w:World):
  Calls Tryz.prog 185 #[.int .i64 n] w fun e w'=>e = .returned (.int .i64 (hold (n*4294967296)))∧w'=w:=by
 unfold InR at hn
 by_cases h1:n > 2147483647
 ·go_enter Tryz.func185,Tryz.ntmps185
  go_wp2
  go_ret
  exact ⟨ret_int (hold_hi (by omega)).symm,rfl⟩
 ·by_cases h2:n < -2147483648
  ·go_enter Tryz.func185,Tryz.ntmps185
   go_wp2
   go_ret
   exact ⟨ret_int (hold_lo (by omega)).symm,rfl⟩
  ·go_enter Tryz.func185,Tryz.ntmps185
   go_wp2
   go_ret
   refine ⟨ret_int ?_,rfl⟩
   rw [hold_in (by omega) (by omega)]
theorem add_any (a b:Int) (ha:InR a) (hb:InR b) (w:World):
  Calls Tryz.prog 118 #[.int .i64 a,.int .i64 b] w fun e w'=>e = .returned (.int .i64 (hold (a+b)))∧w'=w:=by
 go_enter Tryz.func118,Tryz.ntmps118
 go_wp2_with (go_at_call 147;refine (bound_any _ _).mono ?_;rintro e w' ⟨rfl,rfl⟩)
 all_goals
  go_ret
  first
  |exact ⟨ret_int (add_over' a b ha hb ‹_›),rfl⟩
  |exact ⟨ret_int (add_fits a b ha hb ‹_›),rfl⟩
theorem sub_any (a b:Int) (ha:InR a) (hb:InR b) (w:World):
  Calls Tryz.prog 148 #[.int .i64 a,.int .i64 b] w fun e w'=>e = .returned (.int .i64 (hold (a - b)))∧w'=w:=by
 go_enter Tryz.func148,Tryz.ntmps148
 go_wp2_with (go_at_call 147;refine (bound_any _ _).mono ?_;rintro e w' ⟨rfl,rfl⟩)
 all_goals
  go_ret
  first
  |exact ⟨ret_int (sub_over' a b ha hb ‹_›),rfl⟩
  |exact ⟨ret_int (sub_fits a b ha hb ‹_›),rfl⟩
theorem mul64_at (x y hi lo:Nat) (hx:x < 18446744073709551616) (hy:y < 18446744073709551616) (e1:hi=x*y / 18446744073709551616) (e2:lo=x*y % 18446744073709551616) (w:World):
  Calls Tryz.prog 130 #[.int .u64 x,.int .u64 y] w fun e w'=>e = .returned (.tuple #[.int .u64 hi,.int .u64 lo])∧w'=w:=by
 subst e1 e2
 exact Tryz.bits_Mul64 x y hx hy w
theorem mul_any (a b:Int) (ha:InR a) (hb:InR b) (w:World):
  Calls Tryz.prog 134 #[.int .i64 a,.int .i64 b] w fun e w'=>e = .returned (.int .i64 (mulI a b))∧w'=w:=by
 have hx:a.natAbs≤9223372036854775808:=by unfold InR at ha;omega
 have hy:b.natAbs≤9223372036854775808:=by unfold InR at hb;omega
 obtain ⟨x,ea⟩:∃ x,a.natAbs=x:=⟨_,rfl⟩
 obtain ⟨y,eb⟩:∃ y,b.natAbs=y:=⟨_,rfl⟩
 obtain ⟨hi,e1⟩:∃ hi,hi=x*y / 18446744073709551616:=⟨_,rfl⟩
 obtain ⟨lo,e2⟩:∃ lo,lo=x*y % 18446744073709551616:=⟨_,rfl⟩
 have hh:hi≤4611686018427387904:=by
  have:=Nat.mul_le_mul (ea ▸ hx) (eb ▸ hy)
  omega
 have hl:lo < 18446744073709551616:=by omega
 have E:Hid (a.natAbs=x∧b.natAbs=y∧hi=x*y / 18446744073709551616∧lo=x*y % 18446744073709551616):=⟨ea,eb,e1,e2⟩
 have hx':x < 18446744073709551616:=by omega
 have hy':y < 18446744073709551616:=by omega
 clear ea eb e1 e2
 by_cases hf:hi < 2147483648
 all_goals
  go_enter Tryz.func134,Tryz.ntmps134
  go_wp2_with fail
  refine (size_any a x ha E.out.1 _).mono ?_
  rintro e w' ⟨rfl,rfl⟩
  go_wp2_with fail
  refine (size_any b y hb E.out.2.1 _).mono ?_
  rintro e w' ⟨rfl,rfl⟩
  go_wp2_with fail
  refine (mul64_at x y hi lo hx' hy' E.out.2.2.1 E.out.2.2.2 _).mono ?_
  rintro e w' ⟨rfl,rfl⟩
  go_wp2_with fail
 ·refine (byParts_any hi lo hf hl _).mono ?_
  rintro e w' ⟨rfl,rfl⟩
  go_wp2_with fail
  refine (held_any _ _ (parts_lt hi lo hf hl) _).mono ?_
  rintro e w' ⟨rfl,rfl⟩
  go_wp2
  go_ret
  exact ⟨ret_int (mul_near a b x y E.out.1 E.out.2.1 hi lo E.out.2.2.1 E.out.2.2.2),rfl⟩
 ·refine (bound_any _ _).mono ?_
  rintro e w' ⟨rfl,rfl⟩
  go_wp2
  go_ret
  exact ⟨ret_int (mul_far a b x y E.out.1 E.out.2.1 (by have:=E.out.2.2.1;omega)),rfl⟩
end Go.Proofs.YtjlofobnmjompaaGreatDoor.Fx
