/- Tensors: what tens.walk hands back. Tensors: what tens.spread hands back. Tensors that are answered: two slices of the call's own, told in a cell of the callee. Nothing of the program is named here but its types. · Tensors that can be read: what tens.Good, tens.Same and the reference's Is, Alike tell of them. · What an operation of a drawn region hands back, told by predicates that hold on: a cell newly made, a literal's row, a tensor of one's own. · Nodes that a tape keeps: how they lie in memory, what a change of one tape leaves as it was. Nothing of the program is named here but types. · Th -/
import Derived.Test.YtpdkkcnmgiihcaaGreatDoorP01
import Derived.Test.YtpdkkcnmgiihcaaGreatDoorP00
import Derived.Deep.AppendLies
import Derived.Shelf.Small.Bits
import Derived.Shelf.Strconv.Itoa0
import Derived.Shelf.Bits.Mul64
import Derived.Test.YtpdkkcnmgiihcaaGreatDoorProg
import Derived.WalkKit
import Derived.ProofKit
import Derived.WalkSpells
set_option linter.unusedVariables false
set_option linter.unusedSimpArgs false
set_option maxHeartbeats 16000000
set_option maxRecDepth 16000
namespace Go.Proofs.YtpdkkcnmgiihcaaGreatDoor.Wd
open Go.RowKit
/-- make of no number, with room. -/
theorem wpList_make0K {P:Program} {t e:TypeId} {k:IntKind} {b:Nat} (T:NumT P t e k b) (hb8:b≤8) (w:World) {ops:Array Oper} {rest:List Oper} {o:Oper} {a:Act} {Q:Exit→Act→World→Prop}
  (hg:o.guard=none) (l c:Operand) (hop:o.op=Op.makeSlice t l c) (kl kc:IntKind) (C:Int) (n:Nat) (hl:a.eval l = .int kl 0) (hc:a.eval c = .int kc C) (hC:C=(n:Int)) (hn:n≤1073741824)
  (hK:∀ w',Hid (OwnK k e w' w.heap.size (.slice (some ⟨w.heap.size,0,none⟩) 0 n) [])→Below w.heap.size w w'→wpList P ops Q rest (a.put o.dst (.slice (some ⟨w.heap.size,0,none⟩) 0 n)) w'):
  wpList P ops Q (o :: rest) a w:=by
 obtain ⟨i0,hi,hz0,hz1,hz2⟩:=info_of T
 have hm:b*n≤8*1073741824:=Nat.mul_le_mul hb8 hn
 refine wpList_make_own w hg l c t hop w.heap.size e i0 (.int k 0) 1 T.ht hi hz0 hz1 kl kc C n hl hc hC (by rw [hz2];omega) (by unfold maxLen;omega) (Nat.le_refl _) ?_
 intro w' h1 h2
 exact hK w' h1 (Below.grown (Below.refl _ _) h2 (Nat.le_refl _) (fun j hj=>by cases hj))
theorem rowW_le {d s:List Nat} (hd:∀ x,x∈d→x≤4096) (hs:∀ x,x∈s→x≤4096):∀ k a,a∈rowW d s k→a≤k*16777216
 | 0,a,h=>by simp [rowW] at h;omega
 | k+1,a,h=>by
  rw [rowW] at h
  obtain ⟨b,hb,h⟩:=List.mem_flatMap.1 h
  obtain ⟨n,hn,rfl⟩:=List.mem_map.1 h
  have h1:=rowW_le hd hs k b hb
  have h2:=List.mem_range.1 hn
  have h3:d.getD k 0≤4096:=by
   rcases Nat.lt_or_ge k d.length with hk|hk
   ·rw [getD_lt d k 0 hk];exact hd _ (List.getElem_mem _)
   ·rw [getD_ge d k 0 hk];omega
  have h4:s.getD k 0≤4096:=by
   rcases Nat.lt_or_ge k s.length with hk|hk
   ·rw [getD_lt s k 0 hk];exact hs _ (List.getElem_mem _)
   ·rw [getD_ge s k 0 hk];omega
  have:=Nat.mul_le_mul (show n≤4096 by omega) h4
  omega
theorem itl_app (a b:List Nat):itl (a++b)=itl a++itl b:=by simp [itl]
theorem range_map_succ (g:Nat→Nat) (i:Nat):(List.range (i+1)).map g=(List.range i).map g++[g i]:=by rw [List.range_succ,List.map_append];rfl
theorem flat_succ (l:List Nat) (f:Nat→List Nat) (j:Nat) (h:j < l.length):(l.take (j+1)).flatMap f=(l.take j).flatMap f++f (l.getD j 0):=by
 rw [List.take_succ_eq_append_getElem h,List.flatMap_append,getD_lt l j 0 h]
 simp
theorem walk_any (u v:Value) (d s:List Nat) (hd:goodN d) (hs:s.length=d.length) (hb:∀ x,x∈s→x≤4096) (w:World) (hu:Nums .i64 w u (itl d)) (hv:Nums .i64 w v (itl s)):
  Calls Tryz.prog 167 #[u,v] w fun e w'=>∃ v',e = .returned v'∧OwnK .i64 3 w' w.heap.size v' (itl (walkN d s))∧Below w.heap.size w w':=by
 obtain ⟨p,n,c,rfl,HA⟩:=hu.lst
 obtain ⟨p2,n2,c2,rfl,HB⟩:=hv.lst
 have hdn:d.length=n:=by rw [← itl_len d];exact HA.out.1
 obtain rfl:n2=n:=by rw [← hdn,← hs,← itl_len s];exact HB.out.1.symm
 have hn:n2≤4:=by rw [← hdn];exact hd.1
 have hn':(n2:Int)≤4:=by omega
 have HD:Hid (goodN d∧s.length=d.length∧(∀ x,x∈s→x≤4096)∧d.length=n2):=⟨hd,hs,hb,hdn⟩
 obtain ⟨L,eL⟩:∃ L,itl (walkN d s)=L:=⟨_,rfl⟩
 have HL:Hid (itl (walkN d s)=L):=eL
 have H5:Hid (OwnK .i64 3 (w.alloc (.cells #[.int .i64 0] 3)) w.heap.size (.slice (some ⟨w.heap.size,0,none⟩) 1 1) (itl (rowW d s 0))):=own_lit w [0] 1 rfl (by decide)
 have H8:Hid (Below w.heap.size w (w.alloc (.cells #[.int .i64 0] 3))):=up_alloc w _
 rw [eL]
 clear eL hd hs hb hdn hu hv
 go_enter Tryz.func167,Tryz.ntmps167
 go_wp2_with fail
 go_loopg [5,15] n2 (fun gg r i wr=>∃ (k:Nat),k≤n2∧gg=n2 - k∧i = .int .i64 (k:Int)∧Hid (OwnK .i64 3 wr w.heap.size r (itl (rowW d s k)))∧Hid (Below w.heap.size w wr))
 case atStart=>exact ⟨0,by omega,by omega,by first|rfl|simp,H5,H8⟩
 case round=>
  obtain ⟨k,hk,hg,rfl,HO,hB⟩:=hrel
  obtain ⟨R0,hR0⟩:∃ R0:World,R0=wr:=⟨_,rfl⟩
  subst hR0
  by_cases hkn:k < n2
  ·have hk':(k:Int) < (n2:Int):=by omega
   obtain ⟨q,o,rfl,hc1⟩:=HA.out.2 k hkn
   have hcell:=cell_low hc1 hB.out
   obtain ⟨q2,o2,rfl,hc2⟩:=HB.out.2 k hkn
   have hcell2:=cell_low hc2 hB.out
   clear hc1 hc2
   obtain ⟨rp,N,rc,erow,HR⟩:=HO.out.nums.lst
   subst erow
   rw [itl_getD] at hcell hcell2
   obtain ⟨D,eD⟩:∃ D,d.getD k 0=D:=⟨_,rfl⟩
   obtain ⟨st,es⟩:∃ st,s.getD k 0=st:=⟨_,rfl⟩
   rw [eD] at hcell
   rw [es] at hcell2
   obtain ⟨l,el⟩:∃ l,rowW d s k=l:=⟨_,rfl⟩
   have hdk:=HD.out.1.at k (by rw [HD.out.2.2.2];exact hkn)
   rw [eD] at hdk
   have hst:st≤4096:=by
    rw [← es,getD_lt s k 0 (by rw [HD.out.2.1,HD.out.2.2.2];exact hkn)]
    exact HD.out.2.2.1 _ (List.getElem_mem _)
   have hN:l.length=N:=by rw [← el,← itl_len];exact HR.out.1
   have hND:N*D≤4096:=by
    rw [← hN,← el,rowW_len d s k (by rw [HD.out.2.2.2];omega),← eD,getD_lt d k 0 (by rw [HD.out.2.2.2];exact hkn),← prodN_take_succ d k (by rw [HD.out.2.2.2];exact hkn)]
    exact Nat.le_trans (prodN_take_le HD.out.1.2.1 _) HD.out.1.2.2
   have hND':(N:Int)*(D:Int)≤4096:=by rw [← Int.natCast_mul];omega
   have hND0:0≤(N:Int)*(D:Int):=by rw [← Int.natCast_mul];omega
   have hN4:N≤4096:=by
    have:=Nat.mul_le_mul (Nat.le_refl N) hdk.1
    omega
   have hN4':(N:Int)≤4096:=by omega
   have hD':1≤(D:Int)∧(D:Int)≤4096:=by omega
   have hst':0≤(st:Int)∧(st:Int)≤4096:=by omega
   obtain ⟨f,ef⟩:∃ f:Nat→List Nat,(fun a=>(List.range D).map fun n=>a+n*st)=f:=⟨_,rfl⟩
   have HF:Hid ((fun a=>(List.range D).map fun n=>a+n*st)=f∧rowW d s (k+1)=l.flatMap f∧rowW d s k=l∧l.length=N):=⟨ef,by rw [rowW,el,eD,es,ef],el,hN⟩
   have HLl:Hid (∀ j,j < N→l.getD j 0≤67108864):=fun j hj=>by
    have hjl:j < l.length:=by rw [HF.out.2.2.2];exact hj
    have hmem:l.getD j 0∈rowW d s k:=by
     rw [HF.out.2.2.1,getD_lt l j 0 hjl]
     exact List.getElem_mem _
    have:=rowW_le HD.out.1.le HD.out.2.2.1 k _ hmem
    omega
   obtain ⟨M,eM⟩:∃ M:Nat,N*D=M:=⟨_,rfl⟩
   have eM':(N:Int)*(D:Int)=(M:Int):=by rw [← Int.natCast_mul,eM]
   have hM:M≤4096:=by omega
   have HM:Hid (N*D=M):=eM
   clear eD es el hN ef hND hND' hND0 eM hdk hst
   go_wp2_with (at_make;refine wpList_make0K numT (by decide) _ rfl (.const (.int .i64 0)) (.tmp 23) rfl .i64 .i64 _ M rfl rfl rfl (by omega) ?_;intro w1 HO1 B1)
   rw [show ([]:List Int)=itl ((l.take 0).flatMap f) by simp [itl]] at HO1
   have HC2:Hid (R0.cell? ⟨q2,o2+k,none⟩=some (.int .i64 (st:Int))):=hcell2
   clear hcell hcell2 HO eM'
   go_wp2_with fail
   go_loopg [8,27] N (fun gg r i wz=>∃ (j:Nat),j≤N∧gg=N - j∧i = .int .i64 (j:Int)∧Hid (OwnK .i64 3 wz R0.heap.size r (itl ((l.take j).flatMap f)))∧Hid (Below R0.heap.size R0 wz))
   case atStart=>exact ⟨0,by omega,by omega,by first|rfl|simp,HO1,B1⟩
   case round=>
    obtain ⟨j,hj,hg2,rfl,HO2,hB2⟩:=hrel
    obtain ⟨R1,hR1⟩:∃ R1:World,R1=wr:=⟨_,rfl⟩
    subst hR1
    by_cases hjn:j < N
    ·have hj':(j:Int) < (N:Int):=by omega
     obtain ⟨q3,o3,rfl,hc3⟩:=HR.out.2 j hjn
     have hcell:=cell_low hc3 hB2.out
     rw [itl_getD,HF.out.2.2.1] at hcell
     have ha:=HLl.out j hjn
     obtain ⟨at_,ea⟩:∃ a,l.getD j 0=a:=⟨_,rfl⟩
     rw [ea] at hcell ha
     have HAt:Hid (l.getD j 0=at_):=ea
     have ha':(at_:Int)≤67108864:=by omega
     obtain ⟨A,eA⟩:∃ A,(l.take j).flatMap f=A:=⟨_,rfl⟩
     have hA:A.length=j*D:=by
      rw [← eA,← HF.out.1,flat_len,List.length_take,HF.out.2.2.2,Nat.min_eq_left hj]
     have hAD:A.length+D≤4096:=by
      have h1:=Nat.mul_le_mul (show j+1≤N by omega) (Nat.le_refl D)
      rw [HM.out,Nat.add_mul] at h1
      omega
     have HAA:Hid ((l.take j).flatMap f=A∧A.length+D≤4096):=⟨eA,hAD⟩
     rw [eA,show A=A++(List.range 0).map (fun n=>at_+n*st) by simp] at HO2
     clear ea hc3 eA hA hAD
     go_wp2_with fail
     go_loopg [8,32] D (fun gg r i wy=>∃ (m:Nat),m≤D∧gg=D - m∧i = .int .i64 (m:Int)∧Hid (OwnK .i64 3 wy R0.heap.size r (itl (A++(List.range m).map fun n=>at_+n*st)))∧Hid (Below R0.heap.size R0 wy))
     case atStart=>exact ⟨0,by omega,by omega,by first|rfl|simp,HO2,hB2⟩
     case round=>
      obtain ⟨m,hm,hg3,rfl,HO3,hB3⟩:=hrel
      obtain ⟨R2,hR2⟩:∃ R2:World,R2=wr:=⟨_,rfl⟩
      subst hR2
      by_cases hmn:m < D
      ·have hm':(m:Int) < (D:Int):=by omega
       have hcl:=cell_low HC2.out hB3.out
       obtain ⟨X,eX⟩:∃ X,at_+m*st=X:=⟨_,rfl⟩
       have hms:m*st≤16777216:=Nat.mul_le_mul (show m≤4096 by omega) (show st≤4096 by omega)
       obtain ⟨Y,eY⟩:∃ Y,m*st=Y:=⟨_,rfl⟩
       have eY':(m:Int)*(st:Int)=(Y:Int):=by rw [← Int.natCast_mul,eY]
       rw [eY] at eX hms
       have hY':(Y:Int)≤16777216:=by omega
       have eX':(at_:Int)+(Y:Int)=(X:Int):=by omega
       have HX:Hid (at_+m*st=X):=by show _=_;rw [eY];exact eX
       have H6:Hid (OwnK .i64 3 (R2.alloc (.cells #[.int .i64 (X:Int)] 3)) R0.heap.size u8 (itl (A++(List.range m).map fun n=>at_+n*st))):=HO3.out.up (up_alloc R2 _)
       have H6n:Hid (Nums .i64 (R2.alloc (.cells #[.int .i64 (X:Int)] 3)) (.slice (some ⟨R2.heap.size,0,none⟩) 1 1) [(X:Int)]):=nums_lit (k:=.i64) R2 [(X:Int)] 1 (0,0) rfl
       have H6b:Hid (Below R0.heap.size R0 (R2.alloc (.cells #[.int .i64 (X:Int)] 3))):=blit hB3.out _
       have H6l:Hid ((itl (A++(List.range m).map fun n=>at_+n*st)).length+[(X:Int)].length≤1073741824):=by
        show _≤_
        rw [itl_len,List.length_append,List.length_map,List.length_range,List.length_singleton]
        have:=HAA.out.2
        omega
       clear eX eY
       go_wp2_with (at_builtin;refine wpList_appendK numT (by decide) rfl (.tmp 35) (.tmp 44) rfl R0.heap.size _ _ rfl H6.out _ [(X:Int)] rfl H6n.out H6l.out H6b.out.size R0 H6b.out ?_;intro v0 w0 H0 B0)
       have H7:Hid (OwnK .i64 3 w0 R0.heap.size v0 (itl (A++(List.range (m+1)).map fun n=>at_+n*st))):=by
        show OwnK _ _ _ _ _ _
        rw [range_map_succ,← List.append_assoc,itl_app,HX.out]
        exact H0.out
       go_roundg (D - (m+1))
       case measure=>omega
       case rel=>exact ⟨m+1,by omega,rfl,by first|rfl|simp,H7,B0⟩
      ·obtain rfl:m=D:=by omega
       have H7:Hid (OwnK .i64 3 R2 R0.heap.size u8 (itl ((l.take (j+1)).flatMap f))):=by
        show OwnK _ _ _ _ _ _
        rw [flat_succ l f j (by rw [HF.out.2.2.2];exact hjn),HAA.out.1,HAt.out,← HF.out.1]
        exact HO3.out
       go_wp2
       go_roundg (N - (j+1))
       case measure=>omega
       case rel=>exact ⟨j+1,by omega,rfl,by first|rfl|simp,H7,hB3⟩
    ·obtain rfl:j=N:=by omega
     have H7:Hid (OwnK .i64 3 R1 w.heap.size u8 (itl (rowW d s (k+1)))):=by
      show OwnK _ _ _ _ _ _
      rw [HF.out.2.1]
      have:=HO2.out
      rw [List.take_of_length_le (by rw [HF.out.2.2.2];exact Nat.le_refl _)] at this
      exact this.low hB.out.size
     have H9:Hid (Below w.heap.size w R1):=bstep hB.out hB2.out
     go_wp2
     go_roundg (n2 - (k+1))
     case measure=>omega
     case rel=>exact ⟨k+1,by omega,rfl,by first|rfl|simp,H7,H9⟩
  ·obtain rfl:k=n2:=by omega
   have hfin:=HO.out
   have hw:=HL.out
   unfold walkN at hw
   rw [HD.out.2.2.2] at hw
   rw [hw] at hfin
   have HF:Hid (OwnK .i64 3 R0 w.heap.size _ L∧Below w.heap.size w R0):=⟨hfin,hB.out⟩
   clear hfin hw
   go_wp2
   go_ret
   exact ⟨_,rfl,HF.out⟩
theorem itl_set (l:List Nat) (j x:Nat):itl (l.set j x)=(itl l).set j (x:Int):=by unfold itl;rw [List.map_set]
theorem spread_any (u v:Value) (d big:List Nat) (hd:goodN d) (hb:goodN big) (hl:d.length≤big.length) (w:World) (hu:Nums .i64 w u (itl d)) (hv:Nums .i64 w v (itl big)):
  Calls Tryz.prog 136 #[u,v] w fun e w'=>∃ v',e = .returned v'∧OwnK .i64 3 w' w.heap.size v' (itl (spreadN d big))∧Below w.heap.size w w':=by
 have cs:∀ W,Below w.heap.size w W→Calls Tryz.prog 166 #[u] W fun e w'=>∃ v',e = .returned v'∧OwnK .i64 3 w' W.heap.size v' (itl (stridesN d))∧Below W.heap.size W w':=fun W hW=>by
  have:=strides_any u (itl d) (RI_itl hd.le) W (hu.up hW)
  rw [show stridesI (itl d)=itl (stridesN d) by unfold stridesI;rw [ntl_itl,if_pos hd]] at this
  exact this
 have HUV:Hid (Nums .i64 w u (itl d)∧Nums .i64 w v (itl big)):=⟨hu,hv⟩
 obtain ⟨p,n,c,rfl,HA⟩:=hu.lst
 obtain ⟨p2,n2,c2,rfl,HB⟩:=hv.lst
 have hdn:d.length=n:=by rw [← itl_len d];exact HA.out.1
 have hbn:big.length=n2:=by rw [← itl_len big];exact HB.out.1
 have hn:n≤n2:=by omega
 have hn4:n2≤4:=by rw [← hbn];exact hb.1
 have hn':(n:Int)≤(n2:Int):=by omega
 have hn4':(n2:Int)≤4:=by omega
 have HD:Hid (goodN d∧goodN big∧d.length=n∧big.length=n2):=⟨hd,hb,hdn,hbn⟩
 obtain ⟨L,eL⟩:∃ L,itl (spreadN d big)=L:=⟨_,rfl⟩
 have HL:Hid (itl (walkN big (stepK d n2 n))=L):=by show _=_;rw [← eL,← hbn,← hdn];rfl
 obtain ⟨ah,eah⟩:∃ ah,n2 - n=ah:=⟨_,rfl⟩
 have eah':(n2:Int) - (n:Int)=(ah:Int):=by omega
 have hah:ah≤4:=by omega
 rw [eL]
 clear eL hd hb hl hdn hbn hu hv
 go_enter Tryz.func136,Tryz.ntmps136
 go_wp2_with (at_make;refine wpList_makeK numT (by decide) _ rfl (.tmp 10) (.tmp 10) rfl .i64 .i64 n2 n2 n2 rfl rfl rfl rfl (by omega) w.heap.size w (Nat.le_refl _) (Below.refl _ _) ?_;intro w1 HO B0 B1;clear B0)
 rw [show List.replicate n2 (0:Int)=itl (stepK d n2 0) by unfold itl stepK;rw [List.map_replicate];rfl] at HO
 refine (cs w1 B1).mono ?_
 rintro e w2 ⟨vs,rfl,hs2,hB2⟩
 obtain ⟨p3,n3,c3,rfl,HS0⟩:=hs2.nums.lst
 obtain rfl:n3=n:=by rw [← HS0.out.1,itl_len,stridesN_len,HD.out.2.2.1]
 have HS:Hid (OwnK .i64 3 w2 w1.heap.size (.slice p3 n3 c3) (itl (stridesN d))):=hs2
 have HO2:Hid (OwnK .i64 3 w2 w.heap.size (.slice (some ⟨w.heap.size,0,none⟩) n2 n2) (itl (stepK d n2 0))):=HO.out.up hB2
 have HB2:Hid (Below w.heap.size w w2):=bstep B1 hB2
 have Hg:Hid (w.heap.size < w1.heap.size):=HO.out.size
 clear hs2 hB2 HO B1 cs HS0
 go_wp2_with fail
 go_loopg [20] n3 (fun gg i wr=>∃ (k:Nat),k≤n3∧gg=n3 - k∧i = .int .i64 (k:Int)∧Hid (OwnK .i64 3 wr w.heap.size (.slice (some ⟨w.heap.size,0,none⟩) n2 n2) (itl (stepK d n2 k)))∧Hid (Below w.heap.size w wr)∧Hid (Stay w.heap.size w2 wr))
 case atStart=>exact ⟨0,by omega,by omega,by first|rfl|simp,HO2,HB2,Stay.refl _ _⟩
 case round=>
  obtain ⟨k,hk,hg,rfl,HR,hB,hS⟩:=hrel
  by_cases hkn:k < n3
  ·have hk':(k:Int) < (n3:Int):=by omega
   have hs3:=(HS.out.nums.stay hS.out (HS.out.off Hg.out)).lst
   obtain ⟨p4,n4,c4,e4,HS4⟩:=hs3
   cases e4
   obtain ⟨q,o,rfl,hc1⟩:=HS4.out.2 k hkn
   obtain ⟨q2,o2,rfl,hc0⟩:=HA.out.2 k hkn
   have hc2:=cell_low hc0 hB.out
   rw [itl_getD] at hc1 hc2
   obtain ⟨st,es⟩:∃ st,(stridesN d).getD k 0=st:=⟨_,rfl⟩
   obtain ⟨D,eD⟩:∃ D,d.getD k 0=D:=⟨_,rfl⟩
   rw [es] at hc1
   rw [eD] at hc2
   have HE:Hid ((stridesN d).getD k 0=st∧d.getD k 0=D):=⟨es,eD⟩
   have hst:=strides_le HD.out.1 k
   rw [es] at hst
   have hst':(st:Int)≤4096:=by omega
   have hD:=HD.out.1.at k (by rw [HD.out.2.2.1];exact hkn)
   rw [eD] at hD
   have hD':1≤(D:Int)∧(D:Int)≤4096:=by omega
   clear es eD hc0 HS4 hst
   by_cases h1:1 < D
   ·have h1':(1:Int) < (D:Int):=by omega
    obtain ⟨j,ej⟩:∃ j,ah+k=j:=⟨_,rfl⟩
    have ej':(ah:Int)+(k:Int)=(j:Int):=by omega
    have hj:j < n2:=by omega
    have hj':(j:Int) < (n2:Int):=by omega
    have Hj:Hid (n2 - d.length+k=j):=by show _=_;rw [HD.out.2.2.1];omega
    obtain ⟨hown,hfz⟩:=HR.out.cell (by rw [itl_len,stepK_len]) j hj
    have H2:Hid (OwnK .i64 3 (wr.setCell ⟨w.heap.size,j,none⟩ (.int .i64 (st:Int))) w.heap.size (.slice (some ⟨w.heap.size,0,none⟩) n2 n2) (itl (stepK d n2 (k+1)))):=by
     have:=HR.out.store (by rw [itl_len,stepK_len]) j (st:Int)
     rw [← itl_set,← HE.out.1,← Hj.out] at this
     show OwnK _ _ _ _ _ _
     rw [stepK,if_pos (by rw [HE.out.2];exact h1),← HE.out.1,← Hj.out]
     exact this
    have HB3:Hid (Below w.heap.size w (wr.setCell ⟨w.heap.size,j,none⟩ (.int .i64 (st:Int)))):=hB.out.setCell (p:=⟨w.heap.size,j,none⟩) (Nat.le_refl _) _
    have HS3:Hid (Stay w.heap.size w2 (wr.setCell ⟨w.heap.size,j,none⟩ (.int .i64 (st:Int)))):=hS.out.set _ _
    clear ej
    go_wp2
    go_roundg (n3 - (k+1))
    case measure=>omega
    case rel=>exact ⟨k+1,by omega,rfl,by first|rfl|simp,H2,HB3,HS3⟩
   ·have h1':(D:Int)≤1:=by omega
    have H2:Hid (OwnK .i64 3 wr w.heap.size (.slice (some ⟨w.heap.size,0,none⟩) n2 n2) (itl (stepK d n2 (k+1)))):=by
     show OwnK _ _ _ _ _ _
     rw [stepK,if_neg (by rw [HE.out.2];exact h1)]
     exact HR.out
    go_wp2
    go_roundg (n3 - (k+1))
    case measure=>omega
    case rel=>exact ⟨k+1,by omega,rfl,by first|rfl|simp,H2,hB,hS⟩
  ·obtain rfl:k=n3:=by omega
   have cw:=walk_any _ _ big (stepK d n2 k) HD.out.2.1 (by rw [stepK_len,HD.out.2.2.2]) (stepK_le HD.out.1 n2 k) wr (HUV.out.2.up hB.out) HR.out.nums
   rw [HL.out] at cw
   go_wp2_with fail
   refine cw.mono ?_
   rintro e w5 ⟨v5,rfl,h5,hB5⟩
   have HF:Hid (OwnK .i64 3 w5 w.heap.size v5 L∧Below w.heap.size w w5):=⟨h5.low hB.out.size,bstep hB.out hB5⟩
   clear h5 hB5 cw
   go_wp2
   go_ret
   exact ⟨_,rfl,HF.out⟩
theorem cell_lt {W:World} {b o:Nat} {v:Value} (h:W.cell? ⟨b,o,none⟩=some v):b < W.heap.size:=cell_block (a:=⟨b,o,none⟩) h
/-- A struct of two values in a block, that may be stored into. -/
def Cel (W:World) (b:Nat) (s t:Value):Prop:=W.cell? ⟨b,0,none⟩=some s∧W.cell? ⟨b,1,none⟩=some t∧W.frozen? ⟨b,0,none⟩=false∧W.frozen? ⟨b,1,none⟩=false
theorem Cel.up {W W':World} {b:Nat} {s t:Value} (h:Cel W b s t) (hB:Below W.heap.size W W'):Cel W' b s t:=by
 have hb:=cell_lt h.1
 refine ⟨cell_low h.1 hB,cell_low h.2.1 hB,?_,?_⟩
 ·rw [hB.frozen (p:=⟨b,0,none⟩) hb];exact h.2.2.1
 ·rw [hB.frozen (p:=⟨b,1,none⟩) hb];exact h.2.2.2
theorem Cel.stay {g:Nat} {W W':World} {b:Nat} {s t:Value} (h:Cel W b s t) (hs:Stay g W W') (hg:b≠g):Cel W' b s t:=by
 have hb:=cell_lt h.1
 refine ⟨hs.cell h.1 hg,hs.cell h.2.1 hg,?_,?_⟩
 ·rw [hs.frozen hb hg];exact h.2.2.1
 ·rw [hs.frozen hb hg];exact h.2.2.2
theorem celW {V W0:World} {b:Nat} {s t:Value} (h:V=W0) (h2:V.cell? ⟨b,0,none⟩=some s∧V.cell? ⟨b,1,none⟩=some t∧V.frozen? ⟨b,0,none⟩=false∧V.frozen? ⟨b,1,none⟩=false):Hid (Cel W0 b s t):=h ▸ h2
theorem hidB {w V W0:World} (h:V=W0) (h2:Below w.heap.size w V):Hid (Below w.heap.size w W0):=h ▸ h2
theorem set_same {W:World} {p:Addr} {x v:Value} (h:W.cell? p=some v):(W.setCell p x).cell? p=some x:=World.cell?_setCell_same _ _ _ h
theorem set_off {W:World} {b i j:Nat} {x:Value} (hij:j≠i):(W.setCell ⟨b,i,none⟩ x).cell? ⟨b,j,none⟩=W.cell? ⟨b,j,none⟩:=World.cell?_setCell_other _ _ _ _ (by simp;try omega)
/-- The struct, stored. -/
abbrev set2 (W:World) (b:Nat) (s t:Value):World:=(W.setCell ⟨b,0,none⟩ s).setCell ⟨b,1,none⟩ t
theorem Cel.set {W:World} {b:Nat} {s t:Value} (h:Cel W b s t) (s' t':Value):Cel (set2 W b s' t') b s' t':=by
 refine ⟨?_,?_,?_,?_⟩
 ·show ((W.setCell ⟨b,0,none⟩ s').setCell ⟨b,1,none⟩ t').cell? ⟨b,0,none⟩=_
  rw [set_off (by omega)]
  exact set_same h.1
 ·exact set_same (by rw [set_off (by omega)];exact h.2.1)
 ·simp [h.2.2.1]
 ·simp [h.2.2.2]
theorem Stay.set2 {g:Nat} (W:World) (s t:Value):Stay g W (set2 W g s t):=((Stay.refl g W).set 0 s).set 1 t
theorem OwnK.off_new {k:IntKind} {e:TypeId} {W:World} {B g:Nat} {v:Value} {l:List Int} (h:OwnK k e W B v l) (hg:W.heap.size≤g):Off g v:=by
 intro ad n c ev
 rcases h.2 with ⟨h1,_⟩|⟨q,cap,cur,h1,h2,h3,_⟩
 ·rw [h1] at ev;cases ev
 ·rw [h1] at ev
  cases ev
  have:q < W.heap.size:=by
   rcases Nat.lt_or_ge q W.heap.size with h|h
   ·exact h
   ·rw [Array.getElem?_eq_none h] at h3;cases h3
  show q≠g
  omega
/-- What a call answers: a tensor in memory of its own. -/
def TRes (W:World) (B:Nat) (v:Value) (D X:List Int):Prop:=∃ s t,v = .agg #[s,t]∧OwnK .i64 3 W B s D∧OwnK .i64 33 W B t X
theorem TRes.none (W:World) (B:Nat):TRes W B (.agg #[.slice none 0 0,.slice none 0 0]) [] []:=⟨_,_,rfl,OwnK.nil _ _ _ _,OwnK.nil _ _ _ _⟩
theorem TRes.up {W W':World} {B:Nat} {v:Value} {D X:List Int} (h:TRes W B v D X) (hB:Below W.heap.size W W'):TRes W' B v D X:=by
 obtain ⟨s,t,e,h1,h2⟩:=h
 exact ⟨s,t,e,h1.up hB,h2.up hB⟩
theorem TRes.low {W:World} {B B':Nat} {v:Value} {D X:List Int} (h:TRes W B v D X) (hB:B'≤B):TRes W B' v D X:=by
 obtain ⟨s,t,e,h1,h2⟩:=h
 exact ⟨s,t,e,h1.low hB,h2.low hB⟩
theorem TRes.set {W:World} {B b:Nat} {s t:Value} {D X:List Int} (h1:OwnK .i64 3 W B s D) (h2:OwnK .i64 33 W B t X) (hb:b < B):TRes (set2 W b s t) B (.agg #[s,t]) D X:=
 ⟨s,t,rfl,h1.stay (Stay.set2 W s t) (h1.off hb),h2.stay (Stay.set2 W s t) (h2.off hb)⟩
theorem below_cell {w W:World} (h:Below w.heap.size w W) (b:Nat) (hb:w.heap.size≤b) (x y:Value):Below w.heap.size w (set2 W b x y):=below_set2 h b hb x y
theorem fin2 {w W0 W:World} {b:Nat} {s t s0 t0:Value} {D X:List Int} (XR:Hid (Cel W0 b s0 t0)) (HB0:Hid (Below w.heap.size w W0)) (hB:Below W0.heap.size W0 W) (hs:OwnK .i64 3 W W0.heap.size s D) (ht:OwnK .i64 33 W W0.heap.size t X) (hb:w.heap.size≤b):Hid (TRes (set2 W b s t) w.heap.size (.agg #[s,t]) D X∧Below w.heap.size w (set2 W b s t))∧W.cell? ⟨b,0,none⟩=some s0∧W.cell? ⟨b,1,none⟩=some t0∧W.frozen? ⟨b,0,none⟩=false∧W.frozen? ⟨b,1,none⟩=false∧(set2 W b s t).cell? ⟨b,0,none⟩=some s∧(set2 W b s t).cell? ⟨b,1,none⟩=some t:=by
 have xr:=XR.out.up hB
 have cf:=xr.set s t
 exact ⟨⟨(TRes.set hs ht (cell_lt XR.out.1)).low HB0.out.size,below_cell (bstep HB0.out hB) _ hb _ _⟩,xr.1,xr.2.1,xr.2.2.1,xr.2.2.2,cf.1,cf.2.1⟩
/-- Both spread and reckoned, number by number. -/
def eachE (d x d' y:List Int):Int:=if isP d x∧isP d' y then joinE d d' else 1
def eachD (d x d' y:List Int):List Int:=if isP d x∧isP d' y then joinL d d' else []
def eachV (op:Int→Int→Int) (d x d' y:List Int):List Int:=
 if (isP d x∧isP d' y)∧joinE d d'=0 then (List.range (prodN (ntl (joinL d d')))).map fun i=>op (x.getD (fromN (ntl d) (ntl (joinL d d')) i) 0) (y.getD (fromN (ntl d') (ntl (joinL d d')) i) 0) else []
theorem each_none {op:Int→Int→Int} {d x d' y:List Int} (h:¬ (isP d x∧isP d' y)):eachE d x d' y=1∧eachD d x d' y = []∧eachV op d x d' y = []:=⟨if_neg h,if_neg h,if_neg fun h'=>h h'.1⟩
theorem joinL_bad {a b:List Int} (h:joinE a b≠0):joinL a b = []:=by
 unfold joinL
 rw [if_neg]
 rintro ⟨h1,h2,h3,h4⟩
 apply h
 unfold joinE
 rw [if_pos ⟨h1,h2⟩,if_pos h3,if_pos h4]
theorem each_bad {op:Int→Int→Int} {d x d' y:List Int} (h:isP d x∧isP d' y) (hE:joinE d d'≠0):eachE d x d' y=joinE d d'∧eachD d x d' y = []∧eachV op d x d' y = []:=
 ⟨if_pos h,by unfold eachD;rw [if_pos h];exact joinL_bad hE,if_neg fun h'=>hE h'.2⟩
/-- Both fit: what stands where. -/
structure Joint (d x d' y:List Int) (a b J:List Nat):Prop where
 da:d=itl a
 db:d'=itl b
 ga:goodN a
 gb:goodN b
 gJ:goodN J
 jn:joinL d d'=itl J
 je:joinE d d'=0
 lx:x.length=prodN a
 ly:y.length=prodN b
 fa:fitsN a J
 ja:joinN a J=J
 fb:fitsN b J
 jb:joinN b J=J
theorem joint {d x d' y:List Int} (h:isP d x∧isP d' y) (hE:joinE d d'=0):∃ a b J,Joint d x d' y a b J:=by
 obtain ⟨h1,h2,h3,h4⟩:=joinE_zero hE
 obtain ⟨a,ga,rfl⟩:=good_itl h1
 obtain ⟨b,gb,rfl⟩:=good_itl h2
 rw [ntl_itl,ntl_itl] at h3 h4
 have hj:=(join_fine ga gb h3 h4).1
 have e1:=h.1.2
 have e2:=h.2.2
 rw [ntl_itl] at e1 e2
 refine ⟨a,b,joinN a b,rfl,rfl,ga,gb,h4,hj,hE,e1,e2,?_,?_,?_,?_⟩
 ·rw [fitsN_comm];exact fitsN_again ga.2.1 gb.2.1 h3
 ·rw [joinN_comm,joinN_again]
 ·rw [fitsN_comm,joinN_comm a b];exact fitsN_again gb.2.1 ga.2.1 ((fitsN_comm _ _).1 h3)
 ·rw [joinN_comm b,joinN_comm a b,joinN_again]
theorem Joint.E {op:Int→Int→Int} {d x d' y:List Int} {a b J:List Nat} (h:Joint d x d' y a b J):eachE d x d' y=0∧eachD d x d' y=itl J∧eachV op d x d' y=(List.range (prodN J)).map fun i=>op (x.getD (fromN a J i) 0) (y.getD (fromN b J i) 0):=by
 have hp:isP d x∧isP d' y:=by
  rw [h.da,h.db]
  unfold isP
  rw [ntl_itl,ntl_itl]
  exact ⟨⟨h.ga,h.lx⟩,h.gb,h.ly⟩
 refine ⟨?_,?_,?_⟩
 ·unfold eachE;rw [if_pos hp];exact h.je
 ·unfold eachD;rw [if_pos hp];exact h.jn
 ·unfold eachV
  rw [if_pos ⟨hp,h.je⟩,h.jn,ntl_itl]
  rw [h.da,h.db,ntl_itl,ntl_itl]
/-- A tensor that can be read. -/
def Tn (D X:List Int) (v:Value) (W:World):Prop:=∃ p n c p2 n2 c2,v = .agg #[.slice p n c,.slice p2 n2 c2]∧Nums .i64 W (.slice p n c) D∧Nums .i64 W (.slice p2 n2 c2) X
theorem Tn.up {D X:List Int} {v:Value} {W W':World} (h:Tn D X v W) (hB:Below W.heap.size W W'):Tn D X v W':=by
 obtain ⟨p,n,c,p2,n2,c2,e,h1,h2⟩:=h
 exact ⟨p,n,c,p2,n2,c2,e,h1.up hB,h2.up hB⟩
/-- No more than an int tells. -/
def Few (l:List Int):Prop:=l.length≤9223372036854775807
theorem alike_tn {D X D' X':List Int} {v v':Value} {W:World} (h:Tn D X v W) (h':Tn D' X' v' W) (hD:Few D) (hX:Few X):
  Calls Tryz.prog 19 #[v,v'] W fun e w'=>e = .returned (.bool (decide (D=D'∧X=X')))∧Below W.heap.size W w':=by
 obtain ⟨p,n,c,p2,n2,c2,rfl,h1,h2⟩:=h
 obtain ⟨p',n',c',p2',n2',c2',rfl,h1',h2'⟩:=h'
 exact ralike_any _ _ _ _ D X D' X' hD hX W h1 h2 h1' h2'
/-- A cell for a tensor, newly made. -/
def NewC (B:Nat) (v:Value) (W:World):Prop:=∃ b,v = .pointer (some ⟨b,0,none⟩)∧W.heap[b]?=some (.cells #[.slice none 0 0,.slice none 0 0] 31 (0,0))∧B≤b
theorem heap_lt {W:World} {b:Nat} {o:Obj} (h:W.heap[b]?=some o):b < W.heap.size:=by
 rcases Nat.lt_or_ge b W.heap.size with h'|h'
 ·exact h'
 ·rw [Array.getElem?_eq_none h'] at h;cases h
theorem NewC.up {B:Nat} {v:Value} {W W':World} (h:NewC B v W) (hB:Below W.heap.size W W'):NewC B v W':=by
 obtain ⟨b,e,h1,h2⟩:=h
 exact ⟨b,e,by rw [hB.block b (heap_lt h1)];exact h1,h2⟩
theorem new_cel {W:World} {b:Nat} {s t:Value} {e:TypeId} (h:W.heap[b]?=some (.cells #[s,t] e (0,0))):Cel W b s t:=by
 refine ⟨?_,?_,?_,?_⟩
 ·unfold World.cell?;simp [h]
 ·unfold World.cell?;simp [h]
 ·unfold World.frozen?;simp [h]
 ·unfold World.frozen?;simp [h]
theorem OwnK.off_type {k:IntKind} {e e':TypeId} {W:World} {B b:Nat} {v:Value} {l:List Int} {cs:Array Value} {fz:Nat×Nat} (h:OwnK k e W B v l) (hb:W.heap[b]?=some (.cells cs e' fz)) (hne:e≠e'):Off b v:=by
 intro ad n c ev
 rcases h.2 with ⟨h1,_⟩|⟨q,cap,cur,h1,h2,h3,_⟩
 ·rw [h1] at ev;cases ev
 ·rw [h1] at ev
  cases ev
  intro hq
  have hq:q=b:=hq
  subst hq
  rw [h3] at hb
  injection hb with hb
  injection hb with _ h5 _
  exact hne h5
/-- A tensor's copy. -/
def OwnT (B:Nat) (D X:List Int) (v:Value) (W:World):Prop:=∃ p n c p2 n2 c2,v = .agg #[.slice p n c,.slice p2 n2 c2]∧OwnK .i64 3 W B (.slice p n c) D∧OwnK .i64 33 W B (.slice p2 n2 c2) X
theorem OwnT.up {B:Nat} {D X:List Int} {v:Value} {W W':World} (h:OwnT B D X v W) (hB:Below W.heap.size W W'):OwnT B D X v W':=by
 obtain ⟨p,n,c,p2,n2,c2,e,h1,h2⟩:=h
 exact ⟨p,n,c,p2,n2,c2,e,h1.up hB,h2.up hB⟩
/-- A tensor's two literals. -/
def TupP (B:Nat) (D X:List Int) (E:Int) (v:Value) (W:World):Prop:=∃ u,v = .tuple #[u,.int .i64 E]∧OwnT B D X u W
theorem TupP.up {B:Nat} {D X:List Int} {E:Int} {v:Value} {W W':World} (h:TupP B D X E v W) (hB:Below W.heap.size W W'):TupP B D X E v W':=by
 obtain ⟨u,e,h1⟩:=h
 exact ⟨u,e,h1.up hB⟩
theorem TRes.own {W:World} {B:Nat} {v:Value} {D X:List Int} (h:TRes W B v D X):OwnT B D X v W:=by
 obtain ⟨s,t,rfl,h1,h2⟩:=h
 obtain ⟨p,n,c,rfl,_⟩:=h1.nums.lst
 obtain ⟨p2,n2,c2,rfl,_⟩:=h2.nums.lst
 exact ⟨p,n,c,p2,n2,c2,rfl,h1,h2⟩
/-- A slice has room for what it holds. -/
theorem OwnK.cap {k:IntKind} {e:TypeId} {W:World} {B n c:Nat} {p:Option Addr} {l:List Int} (h:OwnK k e W B (.slice p n c) l):n≤c:=by
 rcases h.2 with ⟨h1,_⟩|⟨q,cap,cur,h1,h2,h3,h4,_⟩
 ·cases h1
  exact Nat.le_refl _
 ·cases h1
  exact h4
theorem OwnK.obj {k:IntKind} {e:TypeId} {W:World} {B g n c:Nat} {l:List Int} (h:OwnK k e W B (.slice (some ⟨g,0,none⟩) n c) l):∃ cs fz,W.heap[g]?=some (.cells cs e fz):=by
 rcases h.2 with ⟨h1,_⟩|⟨q,cap,cur,h1,h2,h3,_⟩
 ·cases h1
 ·cases h1
  exact ⟨_,_,h3⟩
theorem good_two {D0 D1:Nat}:goodN (ntl [(D0:Int),(D1:Int)])↔1≤D0∧1≤D1∧D0*D1≤4096:=by
 have en:ntl [(D0:Int),(D1:Int)] = [D0,D1]:=ntl_itl [D0,D1]
 rw [en]
 constructor
 ·intro h
  exact ⟨h.2.1 _ (by simp),h.2.1 _ (by simp),by have:=h.2.2;simpa [prodN] using this⟩
 ·rintro ⟨a,b,c⟩
  exact ⟨by simp,fun y hy=>by simp at hy;omega,by simpa [prodN] using c⟩
theorem le_side {a b:Nat} (h:a*b≤4096) (ha:1≤a) (hb:1≤b):a≤4096∧b≤4096:=⟨by have:=Nat.mul_le_mul_left a hb;omega,by have:=Nat.mul_le_mul_right b ha;omega⟩
theorem RI_kern {l:List Int} (h:(l.all fun y=>decide (-9223372036854775808≤y∧y≤9223372036854775807))=true):RI l:=fun y hy=>by
 have:=List.all_eq_true.1 h y hy
 simpa using this
theorem two_sides {d x:List Int} (h:isP d x) (h2:d.length=2):∃ D0 D1:Nat,d = [(D0:Int),(D1:Int)]∧x.length=D0*D1∧1≤D0∧1≤D1∧D0*D1≤4096:=by
 obtain ⟨a,ga,rfl⟩:=good_itl h.1
 have hx:=h.2
 rw [ntl_itl] at hx
 rw [itl_len] at h2
 match a,h2 with
 | [D0,D1],_=>
  have e:prodN [D0,D1]=D0*D1:=by simp [prodN]
  rw [e] at hx
  refine ⟨D0,D1,rfl,hx,ga.2.1 _ (by simp),ga.2.1 _ (by simp),?_⟩
  have:=ga.2.2
  rw [e] at this
  exact this
theorem three_sides {d x:List Int} (h:isP d x) (h2:d.length=3):∃ D0 D1 D2:Nat,d = [(D0:Int),(D1:Int),(D2:Int)]∧x.length=D0*D1*D2∧1≤D0∧1≤D1∧1≤D2∧D0*D1*D2≤4096:=by
 obtain ⟨a,ga,rfl⟩:=good_itl h.1
 have hx:=h.2
 rw [ntl_itl] at hx
 rw [itl_len] at h2
 match a,h2 with
 | [D0,D1,D2],_=>
  have e:prodN [D0,D1,D2]=D0*D1*D2:=by simp [prodN,Nat.mul_assoc]
  rw [e] at hx
  refine ⟨D0,D1,D2,rfl,hx,ga.2.1 _ (by simp),ga.2.1 _ (by simp),ga.2.1 _ (by simp),?_⟩
  have:=ga.2.2
  rw [e] at this
  exact this
theorem prod_two (a b:Nat):prodN (ntl [(a:Int),(b:Int)])=a*b:=by rw [show ntl [(a:Int),(b:Int)] = [a,b] from ntl_itl [a,b]];simp [prodN]
theorem prod_three (a b c:Nat):prodN (ntl [(a:Int),(b:Int),(c:Int)])=a*b*c:=by rw [show ntl [(a:Int),(b:Int),(c:Int)] = [a,b,c] from ntl_itl [a,b,c]];simp [prodN,Nat.mul_assoc]
end Go.Proofs.YtpdkkcnmgiihcaaGreatDoor.Wd
namespace Go.Proofs.YtpdkkcnmgiihcaaGreatDoor.Wd
open Go.RowKit Fx
/-- Blocks of other types than these stand. -/
def Only (S:List TypeId) (W W':World):Prop:=W.heap.size≤W'.heap.size∧∀ k,k < W.heap.size→(∀ cs e fz,W.heap[k]?=some (.cells cs e fz)→e∉S)→W'.heap[k]?=W.heap[k]?
theorem Only.refl (S:List TypeId) (W:World):Only S W W:=⟨Nat.le_refl _,fun _ _ _=>rfl⟩
theorem Only.trans {S:List TypeId} {a b c:World} (h:Only S a b) (h2:Only S b c):Only S a c:=⟨Nat.le_trans h.1 h2.1,fun k hk hp=>by
 have e:=h.2 k hk hp
 rw [h2.2 k (Nat.lt_of_lt_of_le hk h.1) (by rw [e];exact hp),e]⟩
theorem Only.of {S:List TypeId} {a b:World} (h:Below a.heap.size a b):Only S a b:=⟨h.size,fun k hk _=>h.block k hk⟩
theorem Only.keep {S:List TypeId} {a b:World} (h:Only S a b) {k:Nat} {cs:Array Value} {e:TypeId} {fz:Nat×Nat} (hk:a.heap[k]?=some (.cells cs e fz)) (he:e∉S):b.heap[k]?=some (.cells cs e fz):=by
 rw [h.2 k (heap_lt hk) (fun cs' e' fz' h'=>by rw [hk] at h';cases h';exact he)]
 exact hk
theorem Only.grown {S:List TypeId} {a b:World} {row:Option Nat} (h:a.grownBy b row) (hr:∀ k,row=some k→∃ cs e fz,a.heap[k]?=some (.cells cs e fz)∧e∈S):Only S a b:=⟨h.size,fun k hk hp=>h.block k hk fun e=>by
 obtain ⟨cs,e',fz,h1,h2⟩:=hr k e.symm
 exact hp cs e' fz h1 h2⟩
theorem heap_set (W:World) (b o:Nat) (x:Value) (k:Nat) (h:k≠b):(W.setCell ⟨b,o,none⟩ x).heap[k]?=W.heap[k]?:=by
 unfold World.setCell
 simp [Array.getElem?_modify,Ne.symm h]
theorem heap_setat {W:World} {b o:Nat} {x:Value} {cs:Array Value} {e:TypeId} {fz:Nat×Nat} (h:W.heap[b]?=some (.cells cs e fz)):(W.setCell ⟨b,o,none⟩ x).heap[b]?=some (.cells (cs.setIfInBounds o x) e fz):=by
 unfold World.setCell
 simp [Array.getElem?_modify,h]
theorem Only.set {S:List TypeId} {W:World} {b o:Nat} {x:Value} {cs:Array Value} {e:TypeId} {fz:Nat×Nat} (h:W.heap[b]?=some (.cells cs e fz)) (he:e∈S):Only S W (W.setCell ⟨b,o,none⟩ x):=⟨by simp,fun k hk hp=>heap_set W b o x k fun hkb=>by
 subst hkb
 exact hp cs e fz h he⟩
theorem OwnK.only {k:IntKind} {e:TypeId} {S:List TypeId} {W W':World} {B:Nat} {v:Value} {l:List Int} (h:OwnK k e W B v l) (ho:Only S W W') (he:e∉S):OwnK k e W' B v l:=by
 refine ⟨h.1,?_⟩
 rcases h.2 with hn|⟨g,cap,cur,hv,hb,hg,rest⟩
 ·exact .inl hn
 ·exact .inr ⟨g,cap,cur,hv,hb,ho.keep hg he,rest⟩
/-- A node, as the document has it. -/
structure Nd where
 op:Int
 a:Int
 b:Int
 k:Int
 D:List Int
 X:List Int
/-- A node's six cells. -/
def NdC (W:World) (B:Nat) (nd:Nd) (u:List Value):Prop:=∃ s t,u = [.int .i64 nd.op,.int .i64 nd.a,.int .i64 nd.b,.int .i64 nd.k,s,t]∧OwnK .i64 3 W B s nd.D∧OwnK .i64 33 W B t nd.X
def NdsC (W:World) (B:Nat) (ns:List Nd) (xs:List Value):Prop:=xs.length=ns.length*6∧∀ i nd,ns[i]?=some nd→NdC W B nd ((xs.drop (i*6)).take 6)
theorem NdC.only {S:List TypeId} {W W':World} {B:Nat} {nd:Nd} {u:List Value} (h:NdC W B nd u) (ho:Only S W W') (h1:3∉S) (h2:33∉S):NdC W' B nd u:=by
 obtain ⟨s,t,e,hs,ht⟩:=h
 exact ⟨s,t,e,hs.only ho h1,ht.only ho h2⟩
theorem NdsC.only {S:List TypeId} {W W':World} {B:Nat} {ns:List Nd} {xs:List Value} (h:NdsC W B ns xs) (ho:Only S W W') (h1:3∉S) (h2:33∉S):NdsC W' B ns xs:=⟨h.1,fun i nd hn=>(h.2 i nd hn).only ho h1 h2⟩
theorem NdC.len {W:World} {B:Nat} {nd:Nd} {u:List Value} (h:NdC W B nd u):u.length=6:=by
 obtain ⟨s,t,rfl,_⟩:=h
 rfl
theorem NdC.one {W:World} {B:Nat} {nd:Nd} {u:List Value} (h:NdC W B nd u):∀ x∈u,x.oneCell'=true:=by
 obtain ⟨s,t,rfl,hs,ht⟩:=h
 obtain ⟨_,_,_,rfl,_⟩:=hs.nums.lst
 obtain ⟨_,_,_,rfl,_⟩:=ht.nums.lst
 intro x hx
 simp only [List.mem_cons,List.not_mem_nil,or_false] at hx
 rcases hx with rfl|rfl|rfl|rfl|rfl|rfl <;> rfl
theorem NdsC.push {W:World} {B:Nat} {ns:List Nd} {xs:List Value} {nd:Nd} {u:List Value} (h:NdsC W B ns xs) (hu:NdC W B nd u):NdsC W B (ns++[nd]) (xs++u):=by
 have hl:=hu.len
 refine ⟨by rw [List.length_append,List.length_append,h.1,hl];simp;omega,fun i x hi=>?_⟩
 by_cases hlt:i < ns.length
 ·rw [List.getElem?_append_left hlt] at hi
  have:=h.2 i x hi
  rw [List.drop_append_of_le_length (by rw [h.1];omega),List.take_append_of_le_length (by rw [List.length_drop,h.1];omega)]
  exact this
 ·rw [List.getElem?_append_right (by omega)] at hi
  obtain hi0:i=ns.length:=by
   rcases Nat.eq_or_lt_of_le (Nat.le_of_not_lt hlt) with e|e
   ·exact e.symm
   ·rw [List.getElem?_eq_none (by simp;omega)] at hi
    cases hi
  subst hi0
  rw [Nat.sub_self] at hi
  cases hi
  rw [← h.1,List.drop_left,List.take_of_length_le (by omega)]
  exact hu
theorem NdsC.nil (W:World) (B:Nat):NdsC W B [] []:=⟨rfl,fun i nd h=>by simp at h⟩
/-- A tape: a block with one cell, the row of its nodes. -/
def Tap (TT NT:TypeId) (W:World) (B b:Nat) (ns:List Nd):Prop:=B≤b∧∃ v xs,W.heap[b]?=some (.cells #[v] TT (0,0))∧W.ownsRow B NT 6 v ns.length xs∧NdsC W B ns xs
theorem owns_only {S:List TypeId} {W W':World} {B n s:Nat} {e:TypeId} {v:Value} {xs:List Value} (h:W.ownsRow B e s v n xs) (ho:Only S W W') (he:e∉S):W'.ownsRow B e s v n xs:=by
 refine ⟨h.1,?_⟩
 rcases h.2 with hn|⟨g,cap,cur,hv,hb,hg,rest⟩
 ·exact .inl hn
 ·exact .inr ⟨g,cap,cur,hv,hb,ho.keep hg he,rest⟩
theorem Tap.only {TT NT:TypeId} {S:List TypeId} {W W':World} {B b:Nat} {ns:List Nd} (h:Tap TT NT W B b ns) (ho:Only S W W') (h1:TT∉S) (h2:NT∉S) (h3:3∉S) (h4:33∉S):Tap TT NT W' B b ns:=by
 obtain ⟨hb,v,xs,hv,ho2,hn⟩:=h
 exact ⟨hb,v,xs,ho.keep hv h1,owns_only ho2 ho h2,hn.only ho h3 h4⟩
theorem Tap.up {TT NT:TypeId} {W W':World} {B b:Nat} {ns:List Nd} (h:Tap TT NT W B b ns) (hB:Below W.heap.size W W'):Tap TT NT W' B b ns:=h.only (S:=[]) (Only.of hB) (by simp) (by simp) (by simp) (by simp)
theorem Tap.new {TT NT:TypeId} {W:World} {B:Nat} (hB:B≤W.heap.size):Tap TT NT (W.alloc (.cells #[.slice none 0 0] TT)) B W.heap.size []:=
 ⟨hB,_,[],heap_alloc_new W _,World.ownsRow_nil _ _ _ _,NdsC.nil _ _⟩
theorem owned_off {TT NT:TypeId} (hne:NT≠TT) {W:World} {B b n s:Nat} {v v':Value} {xs:List Value} (hb:W.heap[b]?=some (.cells #[v'] TT (0,0))) (h:W.ownsRow B NT s v n xs):v.ownBlock≠some b:=by
 rcases h.2 with ⟨rfl,_⟩|⟨g,cap,cur,rfl,_,hg,_⟩
 ·simp [Value.ownBlock]
 ·intro e
  simp [Value.ownBlock] at e
  subst e
  rw [hb] at hg
  cases hg
  exact hne rfl
/-- A node more: the row was made longer, then the tape's cell was written. -/
theorem Tap.push {TT NT:TypeId} (hne:NT≠TT) (n1:3∉[TT,NT]) (n2:33∉[TT,NT]) {W W':World} {B b:Nat} {ns:List Nd} {v v':Value} {xs u:List Value} {nd:Nd} (hB:B≤b)
  (hv:W.heap[b]?=some (.cells #[v] TT (0,0))) (ho:W.ownsRow B NT 6 v ns.length xs) (hn:NdsC W B ns xs) (hu:NdC W B nd u) (hg:W.grownBy W' v.ownBlock) (ho':W'.ownsRow B NT 6 v' (ns.length+1) (xs++u)):
  Tap TT NT (W'.setCell ⟨b,0,none⟩ v') B b (ns++[nd])∧Only [TT,NT] W (W'.setCell ⟨b,0,none⟩ v'):=by
 have hrow:∀ k,v.ownBlock=some k→∃ cs e fz,W.heap[k]?=some (.cells cs e fz)∧e∈[TT,NT]:=fun k hk=>by
  rcases ho.2 with ⟨rfl,_⟩|⟨g,cap,cur,rfl,_,hg2,_⟩
  ·simp [Value.ownBlock] at hk
  ·simp [Value.ownBlock] at hk
   subst hk
   exact ⟨_,_,_,hg2,by simp⟩
 have o1:Only [TT,NT] W W':=Only.grown hg hrow
 have hv1:W'.heap[b]?=some (.cells #[v] TT (0,0)):=by
  rw [hg.block b (heap_lt hv) (Ne.symm (owned_off hne hv ho))]
  exact hv
 have o2:Only [TT,NT] W' (W'.setCell ⟨b,0,none⟩ v'):=Only.set hv1 (by simp)
 have o3:Only [TT] W' (W'.setCell ⟨b,0,none⟩ v'):=Only.set hv1 (by simp)
 refine ⟨⟨hB,v',xs++u,?_,?_,?_⟩,o1.trans o2⟩
 ·rw [heap_setat hv1]
  rfl
 ·rw [List.length_append]
  exact owns_only ho' o3 (by simp;exact hne)
 ·exact ((hn.push hu).only o1 n1 n2).only o2 n1 n2
/-- What a walk reads of a tape. -/
theorem Tap.head {TT NT:TypeId} {W:World} {B b:Nat} {ns:List Nd} (h:Tap TT NT W B b ns):∃ p c xs,W.heap[b]?=some (.cells #[.slice p ns.length c] TT (0,0))∧W.ownsRow B NT 6 (.slice p ns.length c) ns.length xs∧NdsC W B ns xs∧ns.length≤c:=by
 obtain ⟨hb,v,xs,hv,ho,hn⟩:=h
 rcases ho.2 with ⟨rfl,h0⟩|⟨g,cap,cur,rfl,hbg,hg,hc,rest⟩
 ·rw [h0] at ho
  have hns:ns = []:=List.eq_nil_of_length_eq_zero h0
  subst hns
  exact ⟨none,0,xs,hv,ho,hn,Nat.le_refl _⟩
 ·exact ⟨_,_,xs,hv,ho,hn,hc⟩
theorem head_cell {W:World} {b:Nat} {v:Value} {e:TypeId} (h:W.heap[b]?=some (.cells #[v] e (0,0))):W.cell? ⟨b,0,none⟩=some v∧W.frozen? ⟨b,0,none⟩=false:=by
 unfold World.cell? World.frozen?
 simp [h]
/-- A node's cells, one by one. -/
theorem node_cells {NT:TypeId} {W:World} {B:Nat} {ns:List Nd} {p:Option Addr} {c n:Nat} {xs:List Value} (ho:W.ownsRow B NT 6 (.slice p n c) n xs) (hn:NdsC W B ns xs) (hl:ns.length=n) (i:Nat) (hi:i < n):
  ∃ q nd s t,p=some ⟨q,0,none⟩∧ns[i]?=some nd∧W.cell? ⟨q,i*6,none⟩=some (.int .i64 nd.op)∧W.cell? ⟨q,i*6+1,none⟩=some (.int .i64 nd.a)∧W.cell? ⟨q,i*6+2,none⟩=some (.int .i64 nd.b)∧W.cell? ⟨q,i*6+3,none⟩=some (.int .i64 nd.k)∧W.cell? ⟨q,i*6+4,none⟩=some s∧W.cell? ⟨q,i*6+5,none⟩=some t
   ∧ OwnK .i64 3 W B s nd.D∧OwnK .i64 33 W B t nd.X:=by
 have hnd:ns[i]?=some (ns[i]'(by omega)):=List.getElem?_eq_getElem _
 obtain ⟨s,t,e,hs,ht⟩:=hn.2 i _ hnd
 have hx:∀ j u,((xs.drop (i*6)).take 6)[j]?=some u→xs[i*6+j]?=some u:=fun j u h=>by
  rw [List.getElem?_take] at h
  split at h
  ·rw [List.getElem?_drop] at h
   exact h
  ·cases h
 rw [e] at hx
 rcases ho.2 with ⟨h0,h1⟩|⟨g,cap,cur,hv,hb,hg,rest⟩
 ·omega
 ·cases hv
  have hc:∀ j u,xs[j]?=some u→W.cell? ⟨g,j,none⟩=some u:=fun j u h=>by
   have:=ho.cells (g:=g) rfl j u h
   rw [addr_plus,Nat.zero_add] at this
   exact this
  exact ⟨g,_,s,t,rfl,hnd,hc _ _ (hx 0 _ rfl),hc _ _ (hx 1 _ rfl),hc _ _ (hx 2 _ rfl),hc _ _ (hx 3 _ rfl),hc _ _ (hx 4 _ rfl),hc _ _ (hx 5 _ rfl),hs,ht⟩
/-- A slice's type whose elements are nodes. -/
structure StT (P:Program) (t e:TypeId) (b:Nat):Prop where
 ht:P.underlying t=some (.slice e)
 hi:(P.info? e).map (fun i=>(i.zero.map fun z=>z.cells.size,i.size,i.bytes))=some (some 6,6,b)
/-- append of one node that a literal holds. -/
theorem appN {P:Program} {t e:TypeId} {b:Nat} (T:StT P t e b) (hb:b≤128) (ty:TypeId) (W:World) (B:Nat) (v:Value) (n:Nat) (xs:List Value) (ho:W.ownsRow B e 6 v n xs) (g:Nat) (u:List Value) (hg:W.heap[g]?=some (.cells u.toArray e (0,0))) (hu:u.length=6) (h1:∀ x∈u,x.oneCell'=true) (hn:n+1≤1073741824) (hB:B≤W.heap.size):
  ∃ g' cap w',(Builtin.append_ #[t,t] ty #[v,.slice (some ⟨g,0,none⟩) 1 1]).run P W = .ok (.slice (some ⟨g',0,none⟩) (n+1) cap) w'∧w'.ownsRow B e 6 (.slice (some ⟨g',0,none⟩) (n+1) cap) (n+1) (xs++u)∧W.grownBy w' v.ownBlock:=by
 have hi:=T.hi
 cases h:P.info? e with
 | none=>rw [h] at hi;cases hi
 | some i=>
  rw [h] at hi
  simp only [Option.map_some,Option.some.injEq,Prod.mk.injEq] at hi
  obtain ⟨hz,hs,hby⟩:=hi
  cases hz0:i.zero with
  | none=>rw [hz0] at hz;cases hz
  | some z=>
   rw [hz0] at hz
   simp only [Option.map_some,Option.some.injEq] at hz
   have hm:(n+1)*b≤1073741824*128:=Nat.mul_le_mul hn hb
   obtain ⟨g',cap,w',hr,h2,h3,_,_⟩:=run_append_lies (P:=P) W t ty B e i z 6 b T.ht h hz0 hs hby hz (by decide) v n xs ho ⟨g,0,none⟩ 1 1 u (by omega) (fun j x hj=>by
    rw [addr_plus,Nat.zero_add]
    unfold World.cell?
    simpa [hg] using hj) h1 (by omega) (by unfold maxLen;omega) (by omega) hB _ rfl
   exact ⟨g',cap,w',hr,h2,h3⟩
/-- A literal's block of one node. -/
def LitS (e:TypeId) (B:Nat) (u:List Value) (v:Value) (W:World):Prop:=∃ g,v = .slice (some ⟨g,0,none⟩) 1 1∧W.heap[g]?=some (.cells u.toArray e (0,0))∧B≤g
theorem LitS.up {e:TypeId} {B:Nat} {u:List Value} {v:Value} {W W':World} (h:LitS e B u v W) (hB:Below W.heap.size W W'):LitS e B u v W':=by
 obtain ⟨g,e1,h1,h2⟩:=h
 exact ⟨g,e1,by rw [hB.block g (heap_lt h1)];exact h1,h2⟩
theorem LitS.grown {e:TypeId} {B:Nat} {u:List Value} {v:Value} {W W':World} {r:Option Nat} (h:LitS e B u v W) (hg:W.grownBy W' r) (hr:∀ k,r=some k→k < B):LitS e B u v W':=by
 obtain ⟨g,e1,h1,h2⟩:=h
 refine ⟨g,e1,?_,h2⟩
 rw [hg.block g (heap_lt h1) (fun e=>by have:=hr g e.symm;omega)]
 exact h1
/-- A row of nodes of one's own. -/
def OwnN (e:TypeId) (B n:Nat) (xs:List Value) (v:Value) (W:World):Prop:=W.ownsRow B e 6 v n xs
theorem OwnN.up {e:TypeId} {B n:Nat} {xs:List Value} {v:Value} {W W':World} (h:OwnN e B n xs v W) (hB:Below W.heap.size W W'):OwnN e B n xs v W':=owns_only (S:=[]) h (Only.of hB) (by simp)
theorem grown_up {a b c:World} {r:Option Nat} (h:a.grownBy b r) (h2:Below b.heap.size b c):a.grownBy c r:=⟨h2.os.trans h.os,h2.tape.trans h.tape,h2.output.trans h.output,Nat.le_trans h.size h2.size,fun k hk hr=>(h2.block k (Nat.lt_of_lt_of_le hk h.size)).trans (h.block k hk hr)⟩
theorem below_grown {a b:World} (r:Option Nat) (h:Below a.heap.size a b):a.grownBy b r:=⟨h.os,h.tape,h.output,h.size,fun k hk _=>h.block k hk⟩
theorem grown_trans {a b c:World} {r:Option Nat} (h:a.grownBy b r) (h2:b.grownBy c r):a.grownBy c r:=⟨h2.os.trans h.os,h2.tape.trans h.tape,h2.output.trans h.output,Nat.le_trans h.size h2.size,fun k hk hr=>(h2.block k (Nat.lt_of_lt_of_le hk h.size) hr).trans (h.block k hk hr)⟩
end Go.Proofs.YtpdkkcnmgiihcaaGreatDoor.Wd
namespace Go.Proofs
open Go.Shelf
def Tryz.lays134_ren:Go.Shelf.Ren:=⟨fun|134=>200|129=>204|n=>n,fun|53=>106|3=>3|4=>4|46=>132|5=>5|9=>9|n=>n,fun|n=>n⟩
theorem Tryz.lays134:Go.Proofs.Lays.n134 Tryz.prog Tryz.lays134_ren:={
 mixed:=by kernel_rfl
 f129:=Tryz.func204.trans (congrArg some (by kernel_rfl))
 f134:=Tryz.func200.trans (congrArg some (by kernel_rfl))
 t3:=Tryz.underlying3
 a3:=Tryz.isAgg3
 z3:=Tryz.sizeOf3
 v3:=Tryz.zeroValue3
 t4:=Tryz.underlying4
 a4:=Tryz.isAgg4
 z4:=Tryz.sizeOf4
 v4:=Tryz.zeroValue4
 t5:=Tryz.underlying5
 a5:=Tryz.isAgg5
 z5:=Tryz.sizeOf5
 v5:=Tryz.zeroValue5
 t9:=Tryz.underlying9
 a9:=Tryz.isAgg9
 z9:=Tryz.sizeOf9
 v9:=Tryz.zeroValue9
 t46:=Tryz.underlying132
 a46:=Tryz.isAgg132
 z46:=Tryz.sizeOf132
 v46:=Tryz.zeroValue132
 t53:=Tryz.underlying106
 a53:=Tryz.isAgg106
 z53:=Tryz.sizeOf106
 v53:=Tryz.zeroValue106 }
theorem Tryz.bits_LeadingZeros64 (x:Int) (w:World) (h0:0≤x) (h1:x≤18446744073709551615):
  Calls Tryz.prog 200 #[.int .u64 x] w fun e w'=>e = .returned (.int .i64 (64 - (Lib.bitLen x.toNat:Int)))∧w'=w:=Any.bits_LeadingZeros64 Tryz.lays134 x w h0 h1
def Tryz.lays264_ren:Go.Shelf.Ren:=⟨fun|264=>133|n=>n,fun|53=>106|46=>132|n=>n,fun|n=>n⟩
theorem Tryz.lays264:Go.Proofs.Lays.n264 Tryz.prog Tryz.lays264_ren:={
 mixed:=by kernel_rfl
 f264:=Tryz.func133.trans (congrArg some (by kernel_rfl))
 t46:=Tryz.underlying132
 a46:=Tryz.isAgg132
 z46:=Tryz.sizeOf132
 v46:=Tryz.zeroValue132
 t53:=Tryz.underlying106
 a53:=Tryz.isAgg106
 z53:=Tryz.sizeOf106
 v53:=Tryz.zeroValue106 }
open Go.RowKit Go.Lib in
theorem Tryz.bits_Mul64 (x y:Nat) (hx:x < 18446744073709551616) (hy:y < 18446744073709551616) (w:World):
  Calls Tryz.prog 133 #[.int .u64 x,.int .u64 y] w fun e w'=>e = .returned (.tuple #[.int .u64 ((x*y / 18446744073709551616:Nat):Int),.int .u64 ((x*y % 18446744073709551616:Nat):Int)])∧w'=w:=Any.bits_Mul64 Tryz.lays264 x y hx hy w
def Tryz.lays212_ren:Go.Shelf.Ren:=⟨fun|212=>100|263=>132|264=>133|n=>n,fun|46=>132|51=>151|146=>152|53=>106|148=>154|n=>n,fun|n=>n⟩
theorem Tryz.lays212:Go.Proofs.Lays.n212 Tryz.prog Tryz.lays212_ren:={
 mixed:=by kernel_rfl
 f212:=Tryz.func100.trans (congrArg some (by kernel_rfl))
 f263:=Tryz.func132.trans (congrArg some (by kernel_rfl))
 f264:=Tryz.func133.trans (congrArg some (by kernel_rfl))
 t46:=Tryz.underlying132
 a46:=Tryz.isAgg132
 z46:=Tryz.sizeOf132
 v46:=Tryz.zeroValue132
 t51:=Tryz.underlying151
 a51:=Tryz.isAgg151
 z51:=Tryz.sizeOf151
 v51:=Tryz.zeroValue151
 t53:=Tryz.underlying106
 a53:=Tryz.isAgg106
 z53:=Tryz.sizeOf106
 v53:=Tryz.zeroValue106
 t146:=Tryz.underlying152
 a146:=Tryz.isAgg152
 z146:=Tryz.sizeOf152
 v146:=Tryz.zeroValue152
 t148:=Tryz.underlying154
 a148:=Tryz.isAgg154
 z148:=Tryz.sizeOf154
 v148:=Tryz.zeroValue154 }
open Go.RowKit Go.Lib in
theorem Tryz.bits_Mul (x y:Nat) (hx:x < 18446744073709551616) (hy:y < 18446744073709551616) (w:World):
  Calls Tryz.prog 100 #[.int .u64 x,.int .u64 y] w fun e w'=>e = .returned (.tuple #[.int .u64 ((x*y / 18446744073709551616:Nat):Int),.int .u64 ((x*y % 18446744073709551616:Nat):Int)])∧w'=w:=Any.bits_Mul Tryz.lays212 x y hx hy w
end Go.Proofs
namespace Go.Proofs.YtpdkkcnmgiihcaaGreatDoor.Fx
open Go.RowKit
theorem ret_int {k:IntKind} {a b:Int} (h:a=b):Ending.returned (.int k a) = .returned (.int k b):=by rw [h]
theorem bound_any (b:Bool) (w:World):
  Calls Tryz.prog 151 #[.bool b] w fun e w'=>e = .returned (.int .i64 (lim b))∧w'=w:=by
 cases b
 all_goals
  go_enter Tryz.func151,Tryz.ntmps151
  go_wp2
  go_ret
  exact ⟨rfl,rfl⟩
theorem size_any (a:Int) (n:Nat) (ha:InR a) (hn:a.natAbs=n) (w:World):
  Calls Tryz.prog 168 #[.int .i64 a] w fun e w'=>e = .returned (.int .u64 n)∧w'=w:=by
 unfold InR at ha
 have H:Hid (a.natAbs=n):=hn
 clear hn
 by_cases h:a < 0
 all_goals
  go_enter Tryz.func168,Tryz.ntmps168
  go_wp2
  go_ret
  refine ⟨ret_int ?_,rfl⟩
  have hn:=H.out
  try simp only [IntKind.wrap_u64]
  omega
theorem held_any (b:Bool) (n:Nat) (hn:n < 18446744073709551616) (w:World):
  Calls Tryz.prog 169 #[.bool b,.int .u64 n] w fun e w'=>e = .returned (.int .i64 (hold (sg b n)))∧w'=w:=by
 by_cases h:9223372036854775807 < n
 ·go_enter Tryz.func169,Tryz.ntmps169
  go_wp2_with (go_at_call 151;refine (bound_any _ _).mono ?_;rintro e w' ⟨rfl,rfl⟩)
  go_ret
  exact ⟨ret_int (held_far b n h),rfl⟩
 ·cases b
  all_goals
   go_enter Tryz.func169,Tryz.ntmps169
   go_wp2
   go_ret
   first|exact ⟨ret_int (held_up n (by omega)),rfl⟩|exact ⟨ret_int (held_down n (by omega)),rfl⟩
theorem nearest_any (q r d:Nat) (hq:q < 18446744073709551615) (hr:r < d) (hd:d≤9223372036854775808) (w:World):
  Calls Tryz.prog 192 #[.int .u64 q,.int .u64 r,.int .u64 d] w fun e w'=>e = .returned (.int .u64 (nr q r d:Nat))∧w'=w:=by
 go_enter Tryz.func192,Tryz.ntmps192
 go_wp2
 all_goals
  go_ret
  refine ⟨ret_int ?_,rfl⟩
  try simp only [beq_iff_eq,beq_eq_false_iff_ne,ne_eq] at *
  unfold nr
  split <;> omega
theorem byParts_any (hi lo:Nat) (h1:hi < 2147483648) (h2:lo < 18446744073709551616) (w:World):
  Calls Tryz.prog 170 #[.int .u64 hi,.int .u64 lo] w fun e w'=>e = .returned (.int .u64 (rq (hi*18446744073709551616+lo) 4294967296:Nat))∧w'=w:=by
 go_enter Tryz.func170,Tryz.ntmps170
 go_wp2_with fail
 rw [joinN hi lo (by omega) h2,maskN lo h2]
 have c:=nearest_any (hi*4294967296+lo / 4294967296) (lo % 4294967296) 4294967296 (by omega) (by omega) (by omega) w
 rw [show ((4294967296:Nat):Int)=4294967296 from rfl] at c
 refine c.mono ?_
 rintro e w' ⟨rfl,rfl⟩
 go_wp2
 go_ret
 refine ⟨ret_int ?_,rfl⟩
 rw [← rq_nr,parts_q,parts_r]
theorem of_any (n:Int) (hn:InR n) (w:World):
  Calls Tryz.prog 193 #[.int .i64 n] w fun e w'=>e = .returned (.int .i64 (hold (n*4294967296)))∧w'=w:=by
 unfold InR at hn
 by_cases h1:n > 2147483647
 ·go_enter Tryz.func193,Tryz.ntmps193
  go_wp2
  go_ret
  exact ⟨ret_int (hold_hi (by omega)).symm,rfl⟩
 ·by_cases h2:n < -2147483648
  ·go_enter Tryz.func193,Tryz.ntmps193
   go_wp2
   go_ret
   exact ⟨ret_int (hold_lo (by omega)).symm,rfl⟩
  ·go_enter Tryz.func193,Tryz.ntmps193
   go_wp2
   go_ret
   refine ⟨ret_int ?_,rfl⟩
   rw [hold_in (by omega) (by omega)]
theorem add_any (a b:Int) (ha:InR a) (hb:InR b) (w:World):
  Calls Tryz.prog 116 #[.int .i64 a,.int .i64 b] w fun e w'=>e = .returned (.int .i64 (hold (a+b)))∧w'=w:=by
 go_enter Tryz.func116,Tryz.ntmps116
 go_wp2_with (go_at_call 151;refine (bound_any _ _).mono ?_;rintro e w' ⟨rfl,rfl⟩)
 all_goals
  go_ret
  first
  |exact ⟨ret_int (add_over' a b ha hb ‹_›),rfl⟩
  |exact ⟨ret_int (add_fits a b ha hb ‹_›),rfl⟩
theorem sub_any (a b:Int) (ha:InR a) (hb:InR b) (w:World):
  Calls Tryz.prog 152 #[.int .i64 a,.int .i64 b] w fun e w'=>e = .returned (.int .i64 (hold (a - b)))∧w'=w:=by
 go_enter Tryz.func152,Tryz.ntmps152
 go_wp2_with (go_at_call 151;refine (bound_any _ _).mono ?_;rintro e w' ⟨rfl,rfl⟩)
 all_goals
  go_ret
  first
  |exact ⟨ret_int (sub_over' a b ha hb ‹_›),rfl⟩
  |exact ⟨ret_int (sub_fits a b ha hb ‹_›),rfl⟩
theorem mul64_at (x y hi lo:Nat) (hx:x < 18446744073709551616) (hy:y < 18446744073709551616) (e1:hi=x*y / 18446744073709551616) (e2:lo=x*y % 18446744073709551616) (w:World):
  Calls Tryz.prog 133 #[.int .u64 x,.int .u64 y] w fun e w'=>e = .returned (.tuple #[.int .u64 hi,.int .u64 lo])∧w'=w:=by
 subst e1 e2
 exact Tryz.bits_Mul64 x y hx hy w
theorem mul_any (a b:Int) (ha:InR a) (hb:InR b) (w:World):
  Calls Tryz.prog 137 #[.int .i64 a,.int .i64 b] w fun e w'=>e = .returned (.int .i64 (mulI a b))∧w'=w:=by
 have hx:a.natAbs≤9223372036854775808:=by unfold InR at ha;omega
 have hy:b.natAbs≤9223372036854775808:=by unfold InR at hb;omega
 obtain ⟨x,ea⟩:∃ x,a.natAbs=x:=⟨_,rfl⟩
 obtain ⟨y,eb⟩:∃ y,b.natAbs=y:=⟨_,rfl⟩
 obtain ⟨hi,e1⟩:∃ hi,hi=x*y / 18446744073709551616:=⟨_,rfl⟩
 obtain ⟨lo,e2⟩:∃ lo,lo=x*y % 18446744073709551616:=⟨_,rfl⟩
 have hh:hi≤4611686018427387904:=by
  have:=Nat.mul_le_mul (ea ▸ hx) (eb ▸ hy)
  omega
 have hl:lo < 18446744073709551616:=by omega
 have E:Hid (a.natAbs=x∧b.natAbs=y∧hi=x*y / 18446744073709551616∧lo=x*y % 18446744073709551616):=⟨ea,eb,e1,e2⟩
 have hx':x < 18446744073709551616:=by omega
 have hy':y < 18446744073709551616:=by omega
 clear ea eb e1 e2
 by_cases hf:hi < 2147483648
 all_goals
  go_enter Tryz.func137,Tryz.ntmps137
  go_wp2_with fail
  refine (size_any a x ha E.out.1 _).mono ?_
  rintro e w' ⟨rfl,rfl⟩
  go_wp2_with fail
  refine (size_any b y hb E.out.2.1 _).mono ?_
  rintro e w' ⟨rfl,rfl⟩
  go_wp2_with fail
  refine (mul64_at x y hi lo hx' hy' E.out.2.2.1 E.out.2.2.2 _).mono ?_
  rintro e w' ⟨rfl,rfl⟩
  go_wp2_with fail
 ·refine (byParts_any hi lo hf hl _).mono ?_
  rintro e w' ⟨rfl,rfl⟩
  go_wp2_with fail
  refine (held_any _ _ (parts_lt hi lo hf hl) _).mono ?_
  rintro e w' ⟨rfl,rfl⟩
  go_wp2
  go_ret
  exact ⟨ret_int (mul_near a b x y E.out.1 E.out.2.1 hi lo E.out.2.2.1 E.out.2.2.2),rfl⟩
 ·refine (bound_any _ _).mono ?_
  rintro e w' ⟨rfl,rfl⟩
  go_wp2
  go_ret
  exact ⟨ret_int (mul_far a b x y E.out.1 E.out.2.1 (by have:=E.out.2.2.1;omega)),rfl⟩
end Go.Proofs.YtpdkkcnmgiihcaaGreatDoor.Fx
namespace Go.Proofs.YtpdkkcnmgiihcaaGreatDoor.Wd
open Go.RowKit
theorem RI.in {l:List Int} (h:RI l) (k:Nat) (hk:k < l.length):Fx.InR (l.getD k 0):=h.at k hk
theorem each_no (K:FuncId) (hEnt:∀ args W,(callFunc K args).run Tryz.prog W = .ok (.enter K args) W) (op:Int→Int→Int) (cK:∀ a b,Fx.InR a→Fx.InR b→∀ W,Calls Tryz.prog K #[.int .i64 a,.int .i64 b] W fun e w'=>e = .returned (.int .i64 (op a b))∧w'=W)
  (p p2 p3 p4:Option Addr) (n c n2 c2 n3 c3 n4 c4:Nat) (d x d' y:List Int) (hd:RI d) (hx:RI x) (hd':RI d') (hy:RI y) (w:World) (h1:Nums .i64 w (.slice p n c) d) (h2:Nums .i64 w (.slice p2 n2 c2) x) (h3:Nums .i64 w (.slice p3 n3 c3) d') (h4:Nums .i64 w (.slice p4 n4 c4) y)
  (hno:¬ (isP d x∧isP d' y∧joinE d d'=0)):
  Calls Tryz.prog 115 #[.agg #[.slice p n c,.slice p2 n2 c2],.agg #[.slice p3 n3 c3,.slice p4 n4 c4],.func (.func K) #[] #[]] w fun e w'=>∃ v',e = .returned (.tuple #[v',.int .i64 (eachE d x d' y)])∧TRes w' w.heap.size v' (eachD d x d' y) (eachV op d x d' y)∧Below w.heap.size w w':=by
 have cA:=fun W (hW:Below w.heap.size w W)=>tgood_any _ _ d x hd W (h1.up hW) (h2.up hW)
 have cB:=fun W (hW:Below w.heap.size w W)=>tgood_any _ _ d' y hd' W (h3.up hW) (h4.up hW)
 have cJ:=fun W (hW:Below w.heap.size w W)=>join_any _ _ d d' hd hd' W (h1.up hW) (h3.up hW)
 by_cases ha:isP d x
 ·rw [decide_eq_true ha] at cA
  by_cases hb:isP d' y
  ·rw [decide_eq_true hb] at cB
   have hE:joinE d d'≠0:=fun h=>hno ⟨ha,hb,h⟩
   obtain ⟨e1,e2,e3⟩:=each_bad (op:=op) ⟨ha,hb⟩ hE
   rw [e1,e2,e3]
   obtain ⟨E,eE⟩:∃ E,joinE d d'=E:=⟨_,rfl⟩
   obtain ⟨JL,eJ⟩:∃ JL,joinL d d'=JL:=⟨_,rfl⟩
   rw [eE] at hE cJ ⊢
   rw [eJ] at cJ
   have hE':(E != 0)=true:=by simp [hE]
   clear eE eJ e1 e2 e3 ha hb hno h1 h2 h3 h4 hd hx hd' hy cK
   go_enter Tryz.func115,Tryz.ntmps115
   go_wp2_with fail
   generalize hW0:World.alloc _ _=W0
   have HB0:=hidB (w:=w) hW0 (by go_grown)
   have XA:Hid (Cel W0 w.heap.size (.slice p n c) (.slice p2 n2 c2)):=celW hW0 (by simp [go_sem])
   have XB:Hid (Cel W0 (w.heap.size+1) (.slice p3 n3 c3) (.slice p4 n4 c4)):=celW hW0 (by simp [go_sem])
   have XR:Hid (Cel W0 (w.heap.size+2) (.slice none 0 0) (.slice none 0 0)):=celW hW0 (by simp [go_sem])
   clear hW0
   refine (cA W0 HB0.out).mono ?_
   rintro e w1 ⟨rfl,hB1⟩
   have HB1:=hid2 (bstep HB0.out hB1) hB1
   clear hB1
   have xb:=XB.out.up HB1.out.2
   obtain ⟨b0,b1,_,_⟩:=xb
   go_wp2_with fail
   refine (cB w1 HB1.out.1).mono ?_
   rintro e w2 ⟨rfl,hB2⟩
   have HB2:=hid2 (bstep HB1.out.1 hB2) (bstep HB1.out.2 hB2)
   clear hB2 b0 b1
   have xa:=XA.out.up HB2.out.2
   have xb:=XB.out.up HB2.out.2
   obtain ⟨a0,a1,_,_⟩:=xa
   obtain ⟨b0,b1,_,_⟩:=xb
   go_wp2_with fail
   refine (cJ w2 HB2.out.1).mono ?_
   rintro e w3 ⟨vj,rfl,hO3,hB3⟩
   have HB3:=hid2 (bstep HB2.out.1 hB3) (bstep HB2.out.2 hB3)
   have HO3:Hid (OwnK .i64 3 w3 w2.heap.size vj JL∧Below w2.heap.size w2 w3):=⟨hO3,hB3⟩
   clear hB3 hO3 a0 a1 b0 b1
   have xr:=(XR.out.up HB3.out.2)
   have BF:=below_cell (HB3.out.1) (w.heap.size+2) (by omega) (.slice none 0 0) (.slice none 0 0)
   have cf:=xr.set (.slice none 0 0) (.slice none 0 0)
   obtain ⟨r0,r1,r2,r3⟩:=xr
   obtain ⟨y0,y1,_,_⟩:=cf
   go_wp2
   exact bodyPost_ret (v:=.tuple #[.agg #[.slice none 0 0,.slice none 0 0],.int .i64 E]) (by simp [results,Tryz.results115,go_sem,y0,y1]) rfl ⟨_,rfl,TRes.none _ _,BF⟩
  ·rw [decide_eq_false hb] at cB
   obtain ⟨e1,e2,e3⟩:=each_none (op:=op) (d:=d) (x:=x) (d':=d') (y:=y) fun h=>hb h.2
   rw [e1,e2,e3]
   clear e1 e2 e3 ha hb hno h1 h2 h3 h4 hd hx hd' hy cK cJ
   go_enter Tryz.func115,Tryz.ntmps115
   go_wp2_with fail
   generalize hW0:World.alloc _ _=W0
   have HB0:=hidB (w:=w) hW0 (by go_grown)
   have XA:Hid (Cel W0 w.heap.size (.slice p n c) (.slice p2 n2 c2)):=celW hW0 (by simp [go_sem])
   have XB:Hid (Cel W0 (w.heap.size+1) (.slice p3 n3 c3) (.slice p4 n4 c4)):=celW hW0 (by simp [go_sem])
   have XR:Hid (Cel W0 (w.heap.size+2) (.slice none 0 0) (.slice none 0 0)):=celW hW0 (by simp [go_sem])
   clear hW0
   refine (cA W0 HB0.out).mono ?_
   rintro e w1 ⟨rfl,hB1⟩
   have HB1:=hid2 (bstep HB0.out hB1) hB1
   clear hB1
   have xb:=XB.out.up HB1.out.2
   obtain ⟨b0,b1,_,_⟩:=xb
   go_wp2_with fail
   refine (cB w1 HB1.out.1).mono ?_
   rintro e w2 ⟨rfl,hB2⟩
   have HB2:=hid2 (bstep HB1.out.1 hB2) (bstep HB1.out.2 hB2)
   clear hB2 b0 b1
   have xr:=(XR.out.up HB2.out.2)
   have BF:=below_cell (HB2.out.1) (w.heap.size+2) (by omega) (.slice none 0 0) (.slice none 0 0)
   have cf:=xr.set (.slice none 0 0) (.slice none 0 0)
   obtain ⟨r0,r1,r2,r3⟩:=xr
   obtain ⟨y0,y1,_,_⟩:=cf
   go_wp2
   exact bodyPost_ret (v:=.tuple #[.agg #[.slice none 0 0,.slice none 0 0],.int .i64 1]) (by simp [results,Tryz.results115,go_sem,y0,y1]) rfl ⟨_,rfl,TRes.none _ _,BF⟩
 ·rw [decide_eq_false ha] at cA
  obtain ⟨e1,e2,e3⟩:=each_none (op:=op) (d:=d) (x:=x) (d':=d') (y:=y) fun h=>ha h.1
  rw [e1,e2,e3]
  clear e1 e2 e3 ha hno h1 h2 h3 h4 hd hx hd' hy cK cJ cB
  go_enter Tryz.func115,Tryz.ntmps115
  go_wp2_with fail
  generalize hW0:World.alloc _ _=W0
  have HB0:=hidB (w:=w) hW0 (by go_grown)
  have XA:Hid (Cel W0 w.heap.size (.slice p n c) (.slice p2 n2 c2)):=celW hW0 (by simp [go_sem])
  have XB:Hid (Cel W0 (w.heap.size+1) (.slice p3 n3 c3) (.slice p4 n4 c4)):=celW hW0 (by simp [go_sem])
  have XR:Hid (Cel W0 (w.heap.size+2) (.slice none 0 0) (.slice none 0 0)):=celW hW0 (by simp [go_sem])
  clear hW0
  refine (cA W0 HB0.out).mono ?_
  rintro e w1 ⟨rfl,hB1⟩
  have HB1:=hid2 (bstep HB0.out hB1) hB1
  clear hB1
  have xr:=(XR.out.up HB1.out.2)
  have BF:=below_cell (HB1.out.1) (w.heap.size+2) (by omega) (.slice none 0 0) (.slice none 0 0)
  have cf:=xr.set (.slice none 0 0) (.slice none 0 0)
  obtain ⟨r0,r1,r2,r3⟩:=xr
  obtain ⟨y0,y1,_,_⟩:=cf
  go_wp2
  exact bodyPost_ret (v:=.tuple #[.agg #[.slice none 0 0,.slice none 0 0],.int .i64 1]) (by simp [results,Tryz.results115,go_sem,y0,y1]) rfl ⟨_,rfl,TRes.none _ _,BF⟩
theorem each_yes (K:FuncId) (hEnt:∀ args W,(callFunc K args).run Tryz.prog W = .ok (.enter K args) W) (op:Int→Int→Int) (cK:∀ a b,Fx.InR a→Fx.InR b→∀ W,Calls Tryz.prog K #[.int .i64 a,.int .i64 b] W fun e w'=>e = .returned (.int .i64 (op a b))∧w'=W)
  (p p2 p3 p4:Option Addr) (n c n2 c2 n3 c3 n4 c4:Nat) (d x d' y:List Int) (hd:RI d) (hx:RI x) (hd':RI d') (hy:RI y) (w:World) (h1:Nums .i64 w (.slice p n c) d) (h2:Nums .i64 w (.slice p2 n2 c2) x) (h3:Nums .i64 w (.slice p3 n3 c3) d') (h4:Nums .i64 w (.slice p4 n4 c4) y)
  (a b J:List Nat) (hJ:Joint d x d' y a b J):
  Calls Tryz.prog 115 #[.agg #[.slice p n c,.slice p2 n2 c2],.agg #[.slice p3 n3 c3,.slice p4 n4 c4],.func (.func K) #[] #[]] w fun e w'=>∃ v',e = .returned (.tuple #[v',.int .i64 (eachE d x d' y)])∧TRes w' w.heap.size v' (eachD d x d' y) (eachV op d x d' y)∧Below w.heap.size w w':=by
 have cA:=fun W (hW:Below w.heap.size w W)=>tgood_any _ _ d x hd W (h1.up hW) (h2.up hW)
 have cB:=fun W (hW:Below w.heap.size w W)=>tgood_any _ _ d' y hd' W (h3.up hW) (h4.up hW)
 have cJ:=fun W (hW:Below w.heap.size w W)=>join_any _ _ d d' hd hd' W (h1.up hW) (h3.up hW)
 obtain ⟨e1,e2,e3⟩:=hJ.E (op:=op)
 rw [e1,e2,e3]
 have hpa:isP d x:=by rw [hJ.da];unfold isP;rw [ntl_itl];exact ⟨hJ.ga,hJ.lx⟩
 have hpb:isP d' y:=by rw [hJ.db];unfold isP;rw [ntl_itl];exact ⟨hJ.gb,hJ.ly⟩
 rw [decide_eq_true hpa] at cA
 rw [decide_eq_true hpb] at cB
 rw [hJ.je,hJ.jn] at cJ
 obtain ⟨JL,eJ⟩:∃ JL,itl J=JL:=⟨_,rfl⟩
 obtain ⟨V,eV⟩:∃ V,((List.range (prodN J)).map fun i=>op (x.getD (fromN a J i) 0) (y.getD (fromN b J i) 0))=V:=⟨_,rfl⟩
 obtain ⟨N,eN⟩:∃ N,prodN J=N:=⟨_,rfl⟩
 rw [eJ] at cJ ⊢
 rw [eV]
 have HJ:Hid (Joint d x d' y a b J∧itl J=JL∧((List.range (prodN J)).map fun i=>op (x.getD (fromN a J i) 0) (y.getD (fromN b J i) 0))=V∧prodN J=N∧V.length=N):=⟨hJ,eJ,eV,eN,by rw [← eV,← eN];simp⟩
 have hN:1≤N∧N≤4096:=by rw [← eN];exact ⟨hJ.gJ.pos,hJ.gJ.2.2⟩
 have hN':1≤(N:Int)∧(N:Int)≤4096:=by omega
 have HR:Hid (RI x∧RI y):=⟨hx,hy⟩
 have HEnt:Hid (∀ args W,(callFunc K args).run Tryz.prog W = .ok (.enter K args) W):=hEnt
 have HCK:Hid (∀ a b,Fx.InR a→Fx.InR b→∀ W,Calls Tryz.prog K #[.int .i64 a,.int .i64 b] W fun e w'=>e = .returned (.int .i64 (op a b))∧w'=W):=cK
 have H0:Hid (Nums .i64 w (.slice p n c) (itl a)∧Nums .i64 w (.slice p2 n2 c2) x∧Nums .i64 w (.slice p3 n3 c3) (itl b)∧Nums .i64 w (.slice p4 n4 c4) y):=⟨by rw [← hJ.da];exact h1,h2,by rw [← hJ.db];exact h3,h4⟩
 clear e1 e2 e3 hpa hpb eJ eV eN h1 h2 h3 h4 hd hx hd' hy cK hJ hEnt
 go_enter Tryz.func115,Tryz.ntmps115
 go_wp2_with fail
 generalize hW0:World.alloc _ _=W0
 have HB0:=hidB (w:=w) hW0 (by go_grown)
 have XA:Hid (Cel W0 w.heap.size (.slice p n c) (.slice p2 n2 c2)):=celW hW0 (by simp [go_sem])
 have XB:Hid (Cel W0 (w.heap.size+1) (.slice p3 n3 c3) (.slice p4 n4 c4)):=celW hW0 (by simp [go_sem])
 have XR:Hid (Cel W0 (w.heap.size+2) (.slice none 0 0) (.slice none 0 0)):=celW hW0 (by simp [go_sem])
 clear hW0
 refine (cA W0 HB0.out).mono ?_
 rintro e w1 ⟨rfl,hB1⟩
 have HB1:=hid2 (bstep HB0.out hB1) hB1
 clear hB1
 have xb:=XB.out.up HB1.out.2
 obtain ⟨b0,b1,_,_⟩:=xb
 go_wp2_with fail
 refine (cB w1 HB1.out.1).mono ?_
 rintro e w2 ⟨rfl,hB2⟩
 have HB2:=hid2 (bstep HB1.out.1 hB2) (bstep HB1.out.2 hB2)
 clear hB2 b0 b1
 have xa:=XA.out.up HB2.out.2
 have xb:=XB.out.up HB2.out.2
 obtain ⟨a0,a1,_,_⟩:=xa
 obtain ⟨b0,b1,_,_⟩:=xb
 go_wp2_with fail
 refine (cJ w2 HB2.out.1).mono ?_
 rintro e w3 ⟨vj,rfl,hO3,hB3⟩
 have HB3:=hid2 (bstep HB2.out.1 hB3) (bstep HB2.out.2 hB3)
 have HO3:Hid (OwnK .i64 3 w3 w2.heap.size vj JL∧Below w2.heap.size w2 w3):=⟨hO3,hB3⟩
 clear hB3 hO3 a0 a1 b0 b1
 have cZ:=size_any vj JL (by rw [← HJ.out.2.1];exact RI_itl HJ.out.1.gJ.le) w3 HO3.out.1.nums
 rw [← HJ.out.2.1,ntl_itl,sizeN_good HJ.out.1.gJ,HJ.out.2.2.2.1] at cZ
 go_wp2_with fail
 refine cZ.mono ?_
 rintro e w9 ⟨rfl,rfl⟩
 clear cZ
 go_wp2_with (at_make;refine wpList_makeK fixT (by decide) _ rfl (.tmp 36) (.tmp 36) rfl .i64 .i64 N N N rfl rfl rfl rfl (by omega) w.heap.size w HB3.out.1.size HB3.out.1 ?_;intro w4 HO4 B4 B4';clear B4')
 have HB4:=hid2 (bstep HB3.out.1 B4) (bstep HB3.out.2 B4)
 have HJ4:Hid (OwnK .i64 3 w4 w2.heap.size vj JL):=HO3.out.1.up B4
 obtain ⟨g,hg⟩:∃ g,w9.heap.size=g:=⟨_,rfl⟩
 rw [hg] at HO4
 have Hg:Hid (W0.heap.size≤g∧w2.heap.size≤g∧g < w4.heap.size∧w9.heap.size=g):=⟨by rw [← hg];exact HB3.out.2.size,by rw [← hg];exact HO3.out.2.size,HO4.out.size,hg⟩
 have cSA:∀ W,Below w4.heap.size w4 W→Calls Tryz.prog 136 #[.slice p n c,vj] W fun e w'=>∃ v',e = .returned v'∧OwnK .i64 3 w' w4.heap.size v' (itl (spreadN a J))∧Below W.heap.size W w':=fun W hW=>by
  refine (spread_any _ _ a J HJ.out.1.ga HJ.out.1.gJ (join_le HJ.out.1.ja) W (H0.out.1.up (bstep HB4.out.1 hW)) ?_).mono ?_
  ·rw [HJ.out.2.1];exact (HJ4.out.up hW).nums
  ·rintro e w' ⟨v',rfl,h,hb⟩
   exact ⟨v',rfl,h.low hW.size,hb⟩
 have cSB:∀ W,Below w4.heap.size w4 W→Calls Tryz.prog 136 #[.slice p3 n3 c3,vj] W fun e w'=>∃ v',e = .returned v'∧OwnK .i64 3 w' w4.heap.size v' (itl (spreadN b J))∧Below W.heap.size W w':=fun W hW=>by
  refine (spread_any _ _ b J HJ.out.1.gb HJ.out.1.gJ (join_le HJ.out.1.jb) W (H0.out.2.2.1.up (bstep HB4.out.1 hW)) ?_).mono ?_
  ·rw [HJ.out.2.1];exact (HJ4.out.up hW).nums
  ·rintro e w' ⟨v',rfl,h,hb⟩
   exact ⟨v',rfl,h.low hW.size,hb⟩
 have xa:=XA.out.up HB4.out.2
 have xb:=XB.out.up HB4.out.2
 obtain ⟨a0,a1,_,_⟩:=xa
 obtain ⟨b0,b1,_,_⟩:=xb
 have z0:=cell_lt a0
 have z1:=cell_lt b0
 clear B4
 haveI:Nonempty World:=⟨w⟩
 go_wp2_with fail
 refine rel [⟨3,41,fun v W=>OwnK .i64 3 W w4.heap.size v (itl (spreadN a J))⟩,⟨7,45,fun v W=>OwnK .i64 3 W w4.heap.size v (itl (spreadN b J))⟩] 8 76 (by kernel_rfl) rfl rfl (by kernel_rfl) (by rfl) ?_ ?_
 ·intro e he v W W' h hb
  simp only [List.mem_cons,List.not_mem_nil,or_false] at he
  rcases he with rfl|rfl
  ·exact OwnK.up h hb
  ·exact OwnK.up h hb
 apply Exists.intro
 refine ⟨fun x=>?_,?_,?_⟩
 ·simp only [List.take_succ_cons,List.take_zero]
  iterate 3
   refine relQuiet rfl rfl ?_
   apply Exists.intro
   refine ⟨fun F hF hf K hK=>?_,?_⟩
   ·have hFc:=hF.cell
    have hFf:=hF.frozen
    go_big_quiet_op
    exact hK
   (try simp only [putL])
  refine relTold rfl rfl ?_ ?_
  ·intro F hF hf d
   have hFc:=hF.cell
   have hFf:=hF.frozen
   simp [yieldsR,yieldsUpon,go_sem]
   refine (cSA _ (hF.below d)).mono ?_
   rintro e' w8 ⟨v8,rfl,h8,hb8⟩
   exact ⟨_,rfl,h8,hb8⟩
  iterate 3
   (try simp only [putL])
   refine relQuiet rfl rfl ?_
   apply Exists.intro
   refine ⟨fun F hF hf K hK=>?_,?_⟩
   ·have hFc:=hF.cell
    have hFf:=hF.frozen
    go_big_quiet_op
    exact hK
  (try simp only [putL])
  refine relTold rfl rfl ?_ ?_
  ·intro F hF hf d
   have hFc:=hF.cell
   have hFf:=hF.frozen
   simp [yieldsR,yieldsUpon,go_sem]
   refine (cSB _ (hF.below d)).mono ?_
   rintro e' w8 ⟨v8,rfl,h8,hb8⟩
   exact ⟨_,rfl,h8,hb8⟩
  (try simp only [putL])
  refine relEnd ?_
  exact rfl
 ·exact fun x=>rfl
 ·intro w5 xs hB5 hf
  simp only [List.drop_succ_cons,List.drop_zero]
  have hfa:=hf _ List.mem_cons_self
  have hfb:=hf _ (List.mem_cons_of_mem _ List.mem_cons_self)
  obtain ⟨fa,efa⟩:∃ fa,xs 3=fa:=⟨_,rfl⟩
  obtain ⟨fb,efb⟩:∃ fb,xs 7=fb:=⟨_,rfl⟩
  simp only [efa,efb] at hfa hfb ⊢
  clear efa efb hf
  obtain ⟨pa,na,ca,rfl,HLa⟩:=hfa.nums.lst
  obtain ⟨pb,nb,cb,rfl,HLb⟩:=hfb.nums.lst
  obtain rfl:na=N:=by rw [← HLa.out.1,itl_len,spreadN_len,HJ.out.2.2.2.1]
  obtain rfl:nb=na:=by rw [← HLb.out.1,itl_len,spreadN_len,HJ.out.2.2.2.1]
  have HFa:Hid (OwnK .i64 3 w5 w4.heap.size (.slice pa nb ca) (itl (spreadN a J))∧OwnK .i64 3 w5 w4.heap.size (.slice pb nb cb) (itl (spreadN b J))∧Below w4.heap.size w4 w5):=⟨hfa,hfb,hB5⟩
  have HB5:=hid2 (bstep HB4.out.1 hB5) (bstep HB4.out.2 hB5)
  have XA5:=XA.out.up HB5.out.2
  have XB5:=XB.out.up HB5.out.2
  have XR5:=XR.out.up HB5.out.2
  have HX5:Hid (Cel w5 w.heap.size (.slice p n c) (.slice p2 n2 c2)∧Cel w5 (w.heap.size+1) (.slice p3 n3 c3) (.slice p4 n4 c4)∧Cel w5 (w.heap.size+2) (.slice none 0 0) (.slice none 0 0)):=⟨XA5,XB5,XR5⟩
  have hz:=cell_lt XR.out.1
  have HO5:Hid (OwnK .i64 33 w5 g (.slice (some ⟨g,0,none⟩) nb nb) (rowF V 0)):=by
   show OwnK _ _ _ _ _ _
   rw [rowF_zero,HJ.out.2.2.2.2]
   exact HO4.out.up hB5
  have HJ5:Hid (OwnK .i64 3 w5 w2.heap.size vj JL):=HJ4.out.up hB5
  have Hz:Hid (w.heap.size+2 < W0.heap.size):=hz
  rw [hg]
  clear hfa hfb hB5 HLa HLb XA5 XB5 XR5 a0 a1 b0 b1 z0 z1 cSA cSB HO4 HJ4 hg hz
  go_wp2_with fail
  go_loopg [48] nb (fun gg i wr=>∃ (k:Nat),k≤nb∧gg=nb - k∧i = .int .i64 (k:Int)∧Hid (OwnK .i64 33 wr g (.slice (some ⟨g,0,none⟩) nb nb) (rowF V k))∧Hid (Below w.heap.size w wr∧Stay g w5 wr))
  case atStart=>exact ⟨0,by omega,by omega,by first|rfl|simp,HO5,HB5.out.1,Stay.refl _ _⟩
  case round=>
   obtain ⟨k,hk,hg,rfl,HRk,hBS⟩:=hrel
   obtain ⟨R1,hR1⟩:∃ R1:World,R1=wr:=⟨_,rfl⟩
   subst hR1
   by_cases hkn:k < nb
   ·have hk':(k:Int) < (nb:Int):=by omega
    have hla:=(HFa.out.1.nums.stay hBS.out.2 (HFa.out.1.off Hg.out.2.2.1)).lst
    have hlb:=(HFa.out.2.1.nums.stay hBS.out.2 (HFa.out.2.1.off Hg.out.2.2.1)).lst
    obtain ⟨_,_,_,e4,HLa⟩:=hla
    cases e4
    obtain ⟨_,_,_,e4,HLb⟩:=hlb
    cases e4
    obtain ⟨qa,oa,rfl,ha1⟩:=HLa.out.2 k hkn
    obtain ⟨qb,ob,rfl,hb1⟩:=HLb.out.2 k hkn
    have hkJ:k < prodN J:=by rw [HJ.out.2.2.2.1];exact hkn
    rw [itl_getD,spread_at HJ.out.1.ga HJ.out.1.gJ HJ.out.1.fa HJ.out.1.ja k hkJ] at ha1
    rw [itl_getD,spread_at HJ.out.1.gb HJ.out.1.gJ HJ.out.1.fb HJ.out.1.jb k hkJ] at hb1
    have ia:=fromN_lt HJ.out.1.ga.2.1 HJ.out.1.gJ.2.1 HJ.out.1.fa HJ.out.1.ja k hkJ
    have ib:=fromN_lt HJ.out.1.gb.2.1 HJ.out.1.gJ.2.1 HJ.out.1.fb HJ.out.1.jb k hkJ
    obtain ⟨_,_,_,e4,HX⟩:=(H0.out.2.1.up hBS.out.1).lst
    cases e4
    obtain ⟨_,_,_,e4,HY⟩:=(H0.out.2.2.2.up hBS.out.1).lst
    cases e4
    obtain ⟨i,ei⟩:∃ i,fromN a J k=i:=⟨_,rfl⟩
    obtain ⟨j,ej⟩:∃ j,fromN b J k=j:=⟨_,rfl⟩
    rw [ei] at ha1 ia
    rw [ej] at hb1 ib
    rw [← HJ.out.1.lx,HX.out.1] at ia
    rw [← HJ.out.1.ly,HY.out.1] at ib
    obtain ⟨qx,ox,rfl,hx1⟩:=HX.out.2 i ia
    obtain ⟨qy,oy,rfl,hy1⟩:=HY.out.2 j ib
    have ia':(i:Int) < (n2:Int):=by omega
    have ib':(j:Int) < (n4:Int):=by omega
    have rx:=HR.out.1.in i (by rw [HX.out.1];exact ia)
    have ry:=HR.out.2.in j (by rw [HY.out.1];exact ib)
    obtain ⟨X,eX⟩:∃ X,x.getD i 0=X:=⟨_,rfl⟩
    obtain ⟨Y,eY⟩:∃ Y,y.getD j 0=Y:=⟨_,rfl⟩
    rw [eX] at hx1 rx
    rw [eY] at hy1 ry
    obtain ⟨Z,eZ⟩:∃ Z,op X Y=Z:=⟨_,rfl⟩
    have HZ:Hid (V.getD k 0=Z):=by
     show _=_
     rw [← HJ.out.2.2.1,getD_map_range _ _ _ _ hkJ,ei,ej,eX,eY,eZ]
    have cz:∀ W,Calls Tryz.prog K #[.int .i64 X,.int .i64 Y] W fun e w'=>e = .returned (.int .i64 Z)∧w'=W:=fun W=>by rw [← eZ];exact HCK.out X Y rx ry W
    have hne0:w.heap.size≠g:=by have:=Hz.out;have:=Hg.out.1;omega
    have hne1:w.heap.size+1≠g:=by have:=Hz.out;have:=Hg.out.1;omega
    obtain ⟨a0,a1,_,_⟩:=HX5.out.1.stay hBS.out.2 hne0
    obtain ⟨b0,b1,_,_⟩:=HX5.out.2.1.stay hBS.out.2 hne1
    have z0:=cell_lt a0
    have z1:=cell_lt b0
    have z2:=cell_lt ha1
    have z3:=cell_lt hb1
    have z4:=cell_lt hx1
    have z5:=cell_lt hy1
    have z6:=HRk.out.size
    have Hk:Hid (k < V.length):=by show _ < _;rw [HJ.out.2.2.2.2];exact hkn
    clear eX eY eZ ei ej HLa HLb HX HY hne0 hne1 hkJ ia ib
    go_wp2_with fail
    refine flow 21 76 (by kernel_rfl) rfl rfl (by kernel_rfl) ?_
    apply Exists.intro
    refine ⟨?_,?_⟩
    ·intro F hF
     have hFc:=hF.cell
     have hFf:=hF.frozen
     simp only [List.take_succ_cons,List.take_zero,List.eraseIdx_cons_succ,List.eraseIdx_cons_zero]
     repeat (go_big_quiet_step ((rw [HEnt.out];exact ⟨rfl,hF.same (cz _)⟩)))
     refine wpQuiet_nil ?_
     exact rfl
    ·intro W1 hb1
     simp only [List.drop_succ_cons,List.drop_zero]
     have HR2:=HRk.out.up hb1
     obtain ⟨hown,hfz⟩:=HR2.cell (by rw [rowF_len];exact HJ.out.2.2.2.2) k hkn
     have H5:Hid (OwnK .i64 33 (W1.setCell ⟨g,k,none⟩ (.int .i64 Z)) g (.slice (some ⟨g,0,none⟩) nb nb) (rowF V (k+1))):=by
      have:=HR2.store (by rw [rowF_len];exact HJ.out.2.2.2.2) k Z
      rw [← HZ.out,rowF_set V k Hk.out] at this
      rw [← HZ.out]
      exact this
     have hgw:w.heap.size≤g:=by have:=Hz.out;have:=Hg.out.1;omega
     have H6:Hid (Below w.heap.size w (W1.setCell ⟨g,k,none⟩ (.int .i64 Z))∧Stay g w5 (W1.setCell ⟨g,k,none⟩ (.int .i64 Z))):=⟨(bstep hBS.out.1 hb1).setCell (p:=⟨g,k,none⟩) hgw _,(hBS.out.2.up hb1).set _ _⟩
     clear HR2 hb1 cz z0 z1 z2 z3 z4 z5 z6 a0 a1 b0 b1
     go_wp2
     go_roundg (nb - (k+1))
     case measure=>omega
     case rel=>exact ⟨k+1,by omega,rfl,by first|rfl|simp,H5,H6⟩
   ·obtain rfl:k=nb:=by omega
    obtain ⟨pj,nj,cj,rfl,_⟩:=HJ5.out.nums.lst
    have hne2:w.heap.size+2≠g:=by have:=Hz.out;have:=Hg.out.1;omega
    have xr:=HX5.out.2.2.stay hBS.out.2 hne2
    have hfin:=HRk.out
    rw [← HJ.out.2.2.2.2,rowF_full,HJ.out.2.2.2.2] at hfin
    have hjf:=HJ5.out.stay hBS.out.2 (HO3.out.1.off_new (by rw [Hg.out.2.2.2];exact Nat.le_refl _))
    have HF:Hid (TRes (set2 R1 (w.heap.size+2) (.slice pj nj cj) (.slice (some ⟨g,0,none⟩) k k)) w.heap.size (.agg #[.slice pj nj cj,.slice (some ⟨g,0,none⟩) k k]) JL V∧Below w.heap.size w (set2 R1 (w.heap.size+2) (.slice pj nj cj) (.slice (some ⟨g,0,none⟩) k k))):=by
     refine ⟨(TRes.set (hjf.low HB2.out.2.size) (hfin.low Hg.out.1) Hz.out).low HB0.out.size,below_cell hBS.out.1 _ (by omega) _ _⟩
    have cf:=xr.set (.slice pj nj cj) (.slice (some ⟨g,0,none⟩) k k)
    obtain ⟨r0,r1,r2,r3⟩:=xr
    obtain ⟨y0,y1,_,_⟩:=cf
    clear hfin hjf
    go_wp2
    exact bodyPost_ret (v:=.tuple #[.agg #[.slice pj nj cj,.slice (some ⟨g,0,none⟩) k k],.int .i64 0]) (by simp [results,Tryz.results115,go_sem,y0,y1]) rfl ⟨_,rfl,HF.out⟩
theorem each_any (K:FuncId) (hEnt:∀ args W,(callFunc K args).run Tryz.prog W = .ok (.enter K args) W) (op:Int→Int→Int) (cK:∀ a b,Fx.InR a→Fx.InR b→∀ W,Calls Tryz.prog K #[.int .i64 a,.int .i64 b] W fun e w'=>e = .returned (.int .i64 (op a b))∧w'=W)
  (p p2 p3 p4:Option Addr) (n c n2 c2 n3 c3 n4 c4:Nat) (d x d' y:List Int) (hd:RI d) (hx:RI x) (hd':RI d') (hy:RI y) (w:World) (h1:Nums .i64 w (.slice p n c) d) (h2:Nums .i64 w (.slice p2 n2 c2) x) (h3:Nums .i64 w (.slice p3 n3 c3) d') (h4:Nums .i64 w (.slice p4 n4 c4) y):
  Calls Tryz.prog 115 #[.agg #[.slice p n c,.slice p2 n2 c2],.agg #[.slice p3 n3 c3,.slice p4 n4 c4],.func (.func K) #[] #[]] w fun e w'=>∃ v',e = .returned (.tuple #[v',.int .i64 (eachE d x d' y)])∧TRes w' w.heap.size v' (eachD d x d' y) (eachV op d x d' y)∧Below w.heap.size w w':=by
 by_cases h:isP d x∧isP d' y∧joinE d d'=0
 ·obtain ⟨a,b,J,hJ⟩:=joint ⟨h.1,h.2.1⟩ h.2.2
  exact each_yes K hEnt op cK p p2 p3 p4 n c n2 c2 n3 c3 n4 c4 d x d' y hd hx hd' hy w h1 h2 h3 h4 a b J hJ
 ·exact each_no K hEnt op cK p p2 p3 p4 n c n2 c2 n3 c3 n4 c4 d x d' y hd hx hd' hy w h1 h2 h3 h4 h
theorem tadd_any (p p2 p3 p4:Option Addr) (n c n2 c2 n3 c3 n4 c4:Nat) (d x d' y:List Int) (hd:RI d) (hx:RI x) (hd':RI d') (hy:RI y) (w:World) (h1:Nums .i64 w (.slice p n c) d) (h2:Nums .i64 w (.slice p2 n2 c2) x) (h3:Nums .i64 w (.slice p3 n3 c3) d') (h4:Nums .i64 w (.slice p4 n4 c4) y):
  Calls Tryz.prog 84 #[.agg #[.slice p n c,.slice p2 n2 c2],.agg #[.slice p3 n3 c3,.slice p4 n4 c4]] w fun e w'=>∃ v',e = .returned (.tuple #[v',.int .i64 (eachE d x d' y)])∧TRes w' w.heap.size v' (eachD d x d' y) (eachV (fun a b=>Fx.hold (a+b)) d x d' y)∧Below w.heap.size w w':=by
 have cE:∀ W,Below w.heap.size w W→Calls Tryz.prog 115 #[.agg #[.slice p n c,.slice p2 n2 c2],.agg #[.slice p3 n3 c3,.slice p4 n4 c4],.func (.func 116) #[] #[]] W fun e w'=>∃ v',e = .returned (.tuple #[v',.int .i64 (eachE d x d' y)])∧TRes w' W.heap.size v' (eachD d x d' y) (eachV (fun a b=>Fx.hold (a+b)) d x d' y)∧Below W.heap.size W w':=
  fun W hW=>each_any _ (fun args W=>by simp [go_sem]) _ (fun a b ha hb W=>Fx.add_any a b ha hb W) p p2 p3 p4 n c n2 c2 n3 c3 n4 c4 d x d' y hd hx hd' hy W (h1.up hW) (h2.up hW) (h3.up hW) (h4.up hW)
 obtain ⟨E,eE⟩:∃ E,eachE d x d' y=E:=⟨_,rfl⟩
 obtain ⟨D,eD⟩:∃ D,eachD d x d' y=D:=⟨_,rfl⟩
 obtain ⟨V,eV⟩:∃ V,eachV (fun a b=>Fx.hold (a+b)) d x d' y=V:=⟨_,rfl⟩
 rw [eE,eD,eV] at cE ⊢
 clear eE eD eV h1 h2 h3 h4 hd hx hd' hy
 go_enter Tryz.func84,Tryz.ntmps84
 go_wp2_with fail
 generalize hW0:World.alloc _ _=W0
 have HB0:Hid (Below w.heap.size w W0):=by show Below _ _ _;rw [← hW0];go_grown
 have XR:Hid (Cel W0 (w.heap.size+2) (.slice none 0 0) (.slice none 0 0)):=celW hW0 (by simp [go_sem])
 clear hW0
 refine (cE W0 HB0.out).mono ?_
 rintro e w1 ⟨v1,rfl,⟨s1,t1,rfl,hs1,ht1⟩,hB1⟩
 obtain ⟨ps,ns,cs,rfl,_⟩:=hs1.nums.lst
 obtain ⟨pt,nt,ct,rfl,_⟩:=ht1.nums.lst
 have xr:=XR.out.up hB1
 have BF:=below_cell (bstep HB0.out hB1) (w.heap.size+2) (by omega) (.slice ps ns cs) (.slice pt nt ct)
 have HF:Hid (TRes (set2 w1 (w.heap.size+2) (.slice ps ns cs) (.slice pt nt ct)) w.heap.size (.agg #[.slice ps ns cs,.slice pt nt ct]) D V):=(TRes.set hs1 ht1 (cell_lt XR.out.1)).low HB0.out.size
 have cf:=xr.set (.slice ps ns cs) (.slice pt nt ct)
 obtain ⟨r0,r1,r2,r3⟩:=xr
 obtain ⟨y0,y1,_,_⟩:=cf
 clear hs1 ht1 hB1
 go_wp2
 exact bodyPost_ret (v:=.tuple #[.agg #[.slice ps ns cs,.slice pt nt ct],.int .i64 E]) (by simp [results,Tryz.results84,go_sem,y0,y1]) rfl ⟨_,rfl,HF.out,BF⟩
theorem tsub_any (p p2 p3 p4:Option Addr) (n c n2 c2 n3 c3 n4 c4:Nat) (d x d' y:List Int) (hd:RI d) (hx:RI x) (hd':RI d') (hy:RI y) (w:World) (h1:Nums .i64 w (.slice p n c) d) (h2:Nums .i64 w (.slice p2 n2 c2) x) (h3:Nums .i64 w (.slice p3 n3 c3) d') (h4:Nums .i64 w (.slice p4 n4 c4) y):
  Calls Tryz.prog 119 #[.agg #[.slice p n c,.slice p2 n2 c2],.agg #[.slice p3 n3 c3,.slice p4 n4 c4]] w fun e w'=>∃ v',e = .returned (.tuple #[v',.int .i64 (eachE d x d' y)])∧TRes w' w.heap.size v' (eachD d x d' y) (eachV (fun a b=>Fx.hold (a - b)) d x d' y)∧Below w.heap.size w w':=by
 have cE:∀ W,Below w.heap.size w W→Calls Tryz.prog 115 #[.agg #[.slice p n c,.slice p2 n2 c2],.agg #[.slice p3 n3 c3,.slice p4 n4 c4],.func (.func 152) #[] #[]] W fun e w'=>∃ v',e = .returned (.tuple #[v',.int .i64 (eachE d x d' y)])∧TRes w' W.heap.size v' (eachD d x d' y) (eachV (fun a b=>Fx.hold (a - b)) d x d' y)∧Below W.heap.size W w':=
  fun W hW=>each_any _ (fun args W=>by simp [go_sem]) _ (fun a b ha hb W=>Fx.sub_any a b ha hb W) p p2 p3 p4 n c n2 c2 n3 c3 n4 c4 d x d' y hd hx hd' hy W (h1.up hW) (h2.up hW) (h3.up hW) (h4.up hW)
 obtain ⟨E,eE⟩:∃ E,eachE d x d' y=E:=⟨_,rfl⟩
 obtain ⟨D,eD⟩:∃ D,eachD d x d' y=D:=⟨_,rfl⟩
 obtain ⟨V,eV⟩:∃ V,eachV (fun a b=>Fx.hold (a - b)) d x d' y=V:=⟨_,rfl⟩
 rw [eE,eD,eV] at cE ⊢
 clear eE eD eV h1 h2 h3 h4 hd hx hd' hy
 go_enter Tryz.func119,Tryz.ntmps119
 go_wp2_with fail
 generalize hW0:World.alloc _ _=W0
 have HB0:Hid (Below w.heap.size w W0):=by show Below _ _ _;rw [← hW0];go_grown
 have XR:Hid (Cel W0 (w.heap.size+2) (.slice none 0 0) (.slice none 0 0)):=celW hW0 (by simp [go_sem])
 clear hW0
 refine (cE W0 HB0.out).mono ?_
 rintro e w1 ⟨v1,rfl,⟨s1,t1,rfl,hs1,ht1⟩,hB1⟩
 obtain ⟨ps,ns,cs,rfl,_⟩:=hs1.nums.lst
 obtain ⟨pt,nt,ct,rfl,_⟩:=ht1.nums.lst
 have xr:=XR.out.up hB1
 have BF:=below_cell (bstep HB0.out hB1) (w.heap.size+2) (by omega) (.slice ps ns cs) (.slice pt nt ct)
 have HF:Hid (TRes (set2 w1 (w.heap.size+2) (.slice ps ns cs) (.slice pt nt ct)) w.heap.size (.agg #[.slice ps ns cs,.slice pt nt ct]) D V):=(TRes.set hs1 ht1 (cell_lt XR.out.1)).low HB0.out.size
 have cf:=xr.set (.slice ps ns cs) (.slice pt nt ct)
 obtain ⟨r0,r1,r2,r3⟩:=xr
 obtain ⟨y0,y1,_,_⟩:=cf
 clear hs1 ht1 hB1
 go_wp2
 exact bodyPost_ret (v:=.tuple #[.agg #[.slice ps ns cs,.slice pt nt ct],.int .i64 E]) (by simp [results,Tryz.results119,go_sem,y0,y1]) rfl ⟨_,rfl,HF.out,BF⟩
theorem tmul_any (p p2 p3 p4:Option Addr) (n c n2 c2 n3 c3 n4 c4:Nat) (d x d' y:List Int) (hd:RI d) (hx:RI x) (hd':RI d') (hy:RI y) (w:World) (h1:Nums .i64 w (.slice p n c) d) (h2:Nums .i64 w (.slice p2 n2 c2) x) (h3:Nums .i64 w (.slice p3 n3 c3) d') (h4:Nums .i64 w (.slice p4 n4 c4) y):
  Calls Tryz.prog 120 #[.agg #[.slice p n c,.slice p2 n2 c2],.agg #[.slice p3 n3 c3,.slice p4 n4 c4]] w fun e w'=>∃ v',e = .returned (.tuple #[v',.int .i64 (eachE d x d' y)])∧TRes w' w.heap.size v' (eachD d x d' y) (eachV (Fx.mulI) d x d' y)∧Below w.heap.size w w':=by
 have cE:∀ W,Below w.heap.size w W→Calls Tryz.prog 115 #[.agg #[.slice p n c,.slice p2 n2 c2],.agg #[.slice p3 n3 c3,.slice p4 n4 c4],.func (.func 137) #[] #[]] W fun e w'=>∃ v',e = .returned (.tuple #[v',.int .i64 (eachE d x d' y)])∧TRes w' W.heap.size v' (eachD d x d' y) (eachV (Fx.mulI) d x d' y)∧Below W.heap.size W w':=
  fun W hW=>each_any _ (fun args W=>by simp [go_sem]) _ (fun a b ha hb W=>Fx.mul_any a b ha hb W) p p2 p3 p4 n c n2 c2 n3 c3 n4 c4 d x d' y hd hx hd' hy W (h1.up hW) (h2.up hW) (h3.up hW) (h4.up hW)
 obtain ⟨E,eE⟩:∃ E,eachE d x d' y=E:=⟨_,rfl⟩
 obtain ⟨D,eD⟩:∃ D,eachD d x d' y=D:=⟨_,rfl⟩
 obtain ⟨V,eV⟩:∃ V,eachV (Fx.mulI) d x d' y=V:=⟨_,rfl⟩
 rw [eE,eD,eV] at cE ⊢
 clear eE eD eV h1 h2 h3 h4 hd hx hd' hy
 go_enter Tryz.func120,Tryz.ntmps120
 go_wp2_with fail
 generalize hW0:World.alloc _ _=W0
 have HB0:Hid (Below w.heap.size w W0):=by show Below _ _ _;rw [← hW0];go_grown
 have XR:Hid (Cel W0 (w.heap.size+2) (.slice none 0 0) (.slice none 0 0)):=celW hW0 (by simp [go_sem])
 clear hW0
 refine (cE W0 HB0.out).mono ?_
 rintro e w1 ⟨v1,rfl,⟨s1,t1,rfl,hs1,ht1⟩,hB1⟩
 obtain ⟨ps,ns,cs,rfl,_⟩:=hs1.nums.lst
 obtain ⟨pt,nt,ct,rfl,_⟩:=ht1.nums.lst
 have xr:=XR.out.up hB1
 have BF:=below_cell (bstep HB0.out hB1) (w.heap.size+2) (by omega) (.slice ps ns cs) (.slice pt nt ct)
 have HF:Hid (TRes (set2 w1 (w.heap.size+2) (.slice ps ns cs) (.slice pt nt ct)) w.heap.size (.agg #[.slice ps ns cs,.slice pt nt ct]) D V):=(TRes.set hs1 ht1 (cell_lt XR.out.1)).low HB0.out.size
 have cf:=xr.set (.slice ps ns cs) (.slice pt nt ct)
 obtain ⟨r0,r1,r2,r3⟩:=xr
 obtain ⟨y0,y1,_,_⟩:=cf
 clear hs1 ht1 hB1
 go_wp2
 exact bodyPost_ret (v:=.tuple #[.agg #[.slice ps ns cs,.slice pt nt ct],.int .i64 E]) (by simp [results,Tryz.results120,go_sem,y0,y1]) rfl ⟨_,rfl,HF.out,BF⟩
end Go.Proofs.YtpdkkcnmgiihcaaGreatDoor.Wd
