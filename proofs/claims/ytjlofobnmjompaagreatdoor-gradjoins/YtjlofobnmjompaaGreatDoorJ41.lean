/- The code's losses: rows that are made, what is asked first. -/
import Derived.Test.YtjlofobnmjompaaGreatDoorJ18
import Derived.Test.YtjlofobnmjompaaGreatDoorJ25
import Derived.Test.YtjlofobnmjompaaGreatDoorJ04
set_option linter.unusedVariables false
set_option linter.unusedSimpArgs false
set_option maxHeartbeats 16000000
set_option maxRecDepth 16000
namespace Go.Proofs.YtjlofobnmjompaaGreatDoor.Wd
open Go.RowKit Fx
theorem crowof_any (p:Option Addr) (n c:Nat) (w:World) (hn:n≤4096):
  Calls Tryz.prog 64 #[.slice p n c] w fun e w'=>∃ g,e = .returned (.agg #[.slice (some ⟨g,0,none⟩) 1 1,.slice p n c])∧OwnK .i64 3 w' w.heap.size (.slice (some ⟨g,0,none⟩) 1 1) [(n:Int)]∧Below w.heap.size w w':=by
 have hn':(n:Int)≤4096:=by omega
 go_enter Tryz.func64,Tryz.ntmps64
 go_wp2
 have hB:Below w.heap.size w ((w.alloc (.cells #[.slice (some ⟨w.heap.size+1,0,none⟩) 1 1,.slice p n c] 64)).alloc (.cells #[.int .i64 (n:Int)] 3)):=by go_grown
 have hO:OwnK .i64 3 ((w.alloc (.cells #[.slice (some ⟨w.heap.size+1,0,none⟩) 1 1,.slice p n c] 64)).alloc (.cells #[.int .i64 (n:Int)] 3)) w.heap.size (.slice (some ⟨w.heap.size+1,0,none⟩) 1 1) [(n:Int)]:=by
  have h0:=own_lit (k:=.i64) (e:=3) (w.alloc (.cells #[.slice (some ⟨w.heap.size+1,0,none⟩) 1 1,.slice p n c] 64)) [(n:Int)] 1 rfl (by decide)
  rw [size_alloc] at h0
  exact h0.low (Nat.le_succ _)
 exact bodyPost_ret (v:=.agg #[.slice (some ⟨w.heap.size+1,0,none⟩) 1 1,.slice p n c]) (by simp [results,Tryz.results64,go_sem]) rfl ⟨_,rfl,hO,hB⟩
theorem cfits_any (B tb:Nat) (ns:List Nd) (hG:NodesG ns) (o:Int) (p:Option Addr) (n c:Nat) (y:List Int) (w:World) (hT:TapC w B tb ns) (h:Nums .i64 w (.slice p n c) y):
  Calls Tryz.prog 62 #[.pointer (some ⟨tb,0,none⟩),.int .i64 o,.slice p n c] w fun e w'=>e = .returned (.int .i64 (fitE ns o y))∧Below w.heap.size w w':=by
 obtain ⟨_,_,_,e4,HX⟩:=h.lst
 cases e4
 have hyn:=HX.out.1
 clear HX h
 by_cases ho:0≤o∧o < (ns.length:Int)
 case neg=>
  have e1:fitE ns o y=1:=if_neg fun h'=>ho h'.1
  rw [e1]
  have cv:=cvno_any B tb ns o (by omega) w hT
  clear e1 ho hyn hT hG
  go_enter Tryz.func62,Tryz.ntmps62
  go_wp2_with fail
  refine cv.mono ?_
  rintro e w1 ⟨rfl,hB1⟩
  have HB1:Hid (Below w.heap.size w w1):=hB1
  clear hB1 cv
  go_wp2
  go_ret
  exact ⟨rfl,bstep HB1.out (up_alloc _ _)⟩
 obtain ⟨i,rfl⟩:∃ i:Nat,o=(i:Int):=⟨o.toNat,by omega⟩
 have hi:ns[i]?=some (ns[i]'(by omega)):=List.getElem?_eq_getElem _
 have cv:=cvalue_any B tb ns hG i _ hi w hT
 have end_:=nd_at hi
 obtain ⟨nd,e5⟩:∃ nd,ns[i]'(by omega)=nd:=⟨_,rfl⟩
 rw [e5] at cv end_
 obtain ⟨E,eE⟩:∃ E,fitE ns (i:Int) y=E:=⟨_,rfl⟩
 have HE:Hid ((if y.length=nd.X.length then if nd.D.length=1 then (0:Int) else 4 else 1)=E):=by
  show _=_
  rw [← eE]
  unfold fitE
  rw [end_]
  by_cases h':y.length=nd.X.length
  ·exact (if_pos h').trans (if_pos (show (0≤(i:Int)∧(i:Int) < (ns.length:Int))∧y.length=nd.X.length from ⟨ho,h'⟩)).symm
  ·exact (if_neg h').trans (if_neg (show ¬ ((0≤(i:Int)∧(i:Int) < (ns.length:Int))∧y.length=nd.X.length) from fun h2=>h' h2.2)).symm
 rw [eE]
 clear eE ho hi end_ e5 hT hG
 obtain ⟨op,a,b,k,D,X⟩:=nd
 simp only [] at cv HE
 go_enter Tryz.func62,Tryz.ntmps62
 go_wp2_with fail
 refine cv.mono ?_
 rintro e w1 ⟨v,rfl,hv,hB1⟩
 obtain ⟨q,m,r,q2,m2,r2,rfl,h1,h2⟩:=hv.own
 obtain ⟨_,_,_,e6,H1⟩:=h1.nums.lst
 cases e6
 obtain ⟨_,_,_,e7,H2⟩:=h2.nums.lst
 cases e7
 have hE:=HE.out
 rw [hyn,H1.out.1,H2.out.1] at hE
 have HB1:Hid (Below w.heap.size w w1):=hB1
 clear hB1 cv h1 h2 H1 H2 hyn HE hv
 by_cases hm:n=m2
 case neg=>
  rw [if_neg hm] at hE
  subst hE
  have hm1:((n:Int) != (m2:Int))=true:=by simp;omega
  clear hm
  go_wp2
  go_ret
  exact ⟨rfl,bstep HB1.out (up_alloc _ _)⟩
 subst hm
 rw [if_pos rfl] at hE
 by_cases hd:m=1
 ·subst hd
  rw [if_pos rfl] at hE
  subst hE
  go_wp2
  go_ret
  exact ⟨rfl,bstep HB1.out (up_alloc _ _)⟩
 ·rw [if_neg hd] at hE
  subst hE
  have hm1:((m:Int) != 1)=true:=by simp;omega
  clear hd
  go_wp2
  go_ret
  exact ⟨rfl,bstep HB1.out (up_alloc _ _)⟩
theorem cplc_any (B tb:Nat) (ns:List Nd) (hG:NodesG ns) (o cl:Int) (w:World) (hT:TapC w B tb ns):
  Calls Tryz.prog 65 #[.pointer (some ⟨tb,0,none⟩),.int .i64 o,.int .i64 cl] w fun e w'=>e = .returned (.tuple #[.int .i64 (plcN ns o cl:Int),.int .i64 (plcE ns o cl)])∧Below w.heap.size w w':=by
 by_cases ho:0≤o∧o < (ns.length:Int)
 case neg=>
  have e1:plcE ns o cl=1:=if_neg ho
  have e2:plcN ns o cl=0:=if_neg (by rw [e1];decide)
  rw [e1,e2]
  have cv:=cvno_any B tb ns o (by omega) w hT
  clear e1 e2 ho hT hG
  go_enter Tryz.func65,Tryz.ntmps65
  go_wp2_with fail
  refine cv.mono ?_
  rintro e w1 ⟨rfl,hB1⟩
  have HB1:Hid (Below w.heap.size w w1):=hB1
  clear hB1 cv
  go_wp2
  go_ret2
  exact ⟨rfl,bstep HB1.out (up_alloc _ _)⟩
 obtain ⟨i,rfl⟩:∃ i:Nat,o=(i:Int):=⟨o.toNat,by omega⟩
 have hi:ns[i]?=some (ns[i]'(by omega)):=List.getElem?_eq_getElem _
 have cv:=cvalue_any B tb ns hG i _ hi w hT
 have end_:=nd_at hi
 obtain ⟨nd,e5⟩:∃ nd,ns[i]'(by omega)=nd:=⟨_,rfl⟩
 rw [e5] at cv end_
 obtain ⟨E,eE⟩:∃ E,plcE ns (i:Int) cl=E:=⟨_,rfl⟩
 obtain ⟨R,eR⟩:∃ R:Int,((plcN ns (i:Int) cl:Nat):Int)=R:=⟨_,rfl⟩
 have HE:Hid ((if nd.D.length=1∧0≤cl∧cl < (nd.X.length:Int) then ((nd.X.length:Int),(0:Int)) else (0,4))=(R,E)):=by
  show _=_
  rw [← eE,← eR]
  unfold plcN plcE
  rw [end_,if_pos ho]
  by_cases h':nd.D.length=1∧0≤cl∧cl < (nd.X.length:Int)
  ·rw [if_pos h',if_pos h',if_pos rfl]
  ·rw [if_neg h',if_neg h',if_neg (by decide)]
   rfl
 rw [eE,eR]
 clear eE eR ho hi end_ e5 hT hG
 obtain ⟨op,a,b,k,D,X⟩:=nd
 simp only [] at cv HE
 go_enter Tryz.func65,Tryz.ntmps65
 go_wp2_with fail
 refine cv.mono ?_
 rintro e w1 ⟨v,rfl,hv,hB1⟩
 obtain ⟨q,m,r,q2,m2,r2,rfl,h1,h2⟩:=hv.own
 obtain ⟨_,_,_,e6,H1⟩:=h1.nums.lst
 cases e6
 obtain ⟨_,_,_,e7,H2⟩:=h2.nums.lst
 cases e7
 have hE:=HE.out
 rw [H1.out.1,H2.out.1] at hE
 have HB1:Hid (Below w.heap.size w w1):=hB1
 clear hB1 cv h1 h2 H1 H2 HE hv
 by_cases hd:m=1
 case neg=>
  rw [if_neg fun h'=>hd h'.1] at hE
  cases hE
  have hm1:((m:Int) != 1)=true:=by simp;omega
  clear hd
  go_wp2
  go_ret2
  exact ⟨rfl,bstep HB1.out (up_alloc _ _)⟩
 subst hd
 by_cases hc0:cl < 0
 ·rw [if_neg fun h'=>by have:=h'.2.1;omega] at hE
  cases hE
  go_wp2
  go_ret2
  exact ⟨rfl,bstep HB1.out (up_alloc _ _)⟩
 by_cases hc1:(m2:Int)≤cl
 ·rw [if_neg fun h'=>by have:=h'.2.2;omega] at hE
  cases hE
  go_wp2
  go_ret2
  exact ⟨rfl,bstep HB1.out (up_alloc _ _)⟩
 rw [if_pos ⟨rfl,by omega,by omega⟩] at hE
 cases hE
 go_wp2
 go_ret2
 exact ⟨rfl,bstep HB1.out (up_alloc _ _)⟩
theorem crowbut_any (n:Nat) (hn:1≤n∧n≤4096) (a t:Int) (ci:Nat) (hci:ci < n) (w:World):
  Calls Tryz.prog 66 #[.int .i64 (n:Int),.int .i64 a,.int .i64 (ci:Int),.int .i64 t] w fun e w'=>∃ g g2 c2,e = .returned (.agg #[.slice (some ⟨g,0,none⟩) 1 1,.slice (some ⟨g2,0,none⟩) n c2])∧OwnK .i64 3 w' w.heap.size (.slice (some ⟨g,0,none⟩) 1 1) [(n:Int)]∧OwnK .i64 23 w' w.heap.size (.slice (some ⟨g2,0,none⟩) n c2) (butV n a (ci:Int) t)∧Below w.heap.size w w':=by
 obtain ⟨V,eV⟩:∃ V,List.replicate n a=V:=⟨_,rfl⟩
 obtain ⟨U,eU⟩:∃ U,butV n a (ci:Int) t=U:=⟨_,rfl⟩
 have HV:Hid (V.length=n∧(∀ k,k < n→V.getD k 0=a)∧V.set ci t=U∧n≤4096):=by
  refine ⟨by rw [← eV];simp,fun k hk=>?_,?_,hn.2⟩
  ·rw [← eV,List.getD_eq_getElem?_getD,List.getElem?_replicate,if_pos hk]
   rfl
  ·rw [← eV,← eU]
   rfl
 have hn':(n:Int)≤4096∧1≤(n:Int):=by omega
 have hci':(ci:Int) < (n:Int):=by omega
 rw [eU]
 clear eV eU
 go_enter Tryz.func66,Tryz.ntmps66
 go_wp2_with (at_make;generalize hW0:World.alloc _ _=W0;have HB0:=hidB (w:=w) hW0 (by go_grown);have XR:Hid (Cel W0 w.heap.size (.slice none 0 0) (.slice none 0 0)):=celW hW0 (by simp [go_sem]);clear hW0;refine wpList_makeK fixT (by decide) _ rfl (.tmp 11) (.tmp 11) rfl .i64 .i64 n n n rfl rfl rfl rfl (by omega) w.heap.size w HB0.out.size HB0.out ?_;intro w4 HO4 B4 B4';clear B4')
 obtain ⟨g,hg⟩:∃ g,W0.heap.size=g:=⟨_,rfl⟩
 have HB4:=hid2 (bstep HB0.out B4) B4
 rw [hg] at HO4 ⊢
 have hz:=cell_lt XR.out.1
 have Hg:Hid (W0.heap.size=g∧w.heap.size < W0.heap.size):=⟨hg,hz⟩
 have HO5:Hid (OwnK .i64 23 w4 g (.slice (some ⟨g,0,none⟩) n n) (rowF V 0)):=by
  show OwnK _ _ _ _ _ _
  rw [rowF_zero,HV.out.1]
  exact HO4.out
 clear HO4 B4 hg hz
 go_loopg [15] n (fun gg i wr=>∃ (k:Nat),k≤n∧gg=n - k∧i = .int .i64 (k:Int)∧Hid (OwnK .i64 23 wr g (.slice (some ⟨g,0,none⟩) n n) (rowF V k))∧Hid (Below w.heap.size w wr∧Stay g w4 wr))
 case atStart=>exact ⟨0,by omega,by omega,by first|rfl|simp,HO5,HB4.out.1,Stay.refl _ _⟩
 case round=>
  obtain ⟨k,hk,hg,rfl,HRk,hBS⟩:=hrel
  obtain ⟨R1,hR1⟩:∃ R1:World,R1=wr:=⟨_,rfl⟩
  subst hR1
  by_cases hkn:k < n
  ·have hk':(k:Int) < (n:Int):=by omega
   obtain ⟨hown,hfz⟩:=HRk.out.cell (by rw [rowF_len];exact HV.out.1) k hkn
   have H5:Hid (OwnK .i64 23 (R1.setCell ⟨g,k,none⟩ (.int .i64 a)) g (.slice (some ⟨g,0,none⟩) n n) (rowF V (k+1))):=by
    have:=HRk.out.store (by rw [rowF_len];exact HV.out.1) k a
    have hva:=HV.out.2.1 k hkn
    rw [← hva,rowF_set V k (by rw [HV.out.1];exact hkn)] at this
    rw [← hva]
    exact this
   have hgw:w.heap.size≤g:=by have:=Hg.out;omega
   have H6:Hid (Below w.heap.size w (R1.setCell ⟨g,k,none⟩ (.int .i64 a))∧Stay g w4 (R1.setCell ⟨g,k,none⟩ (.int .i64 a))):=⟨hBS.out.1.setCell (p:=⟨g,k,none⟩) hgw _,hBS.out.2.set _ _⟩
   go_wp2
   go_roundg (n - (k+1))
   case measure=>omega
   case rel=>exact ⟨k+1,by omega,rfl,by first|rfl|simp,H5,H6⟩
  ·obtain rfl:k=n:=by omega
   have hne1:w.heap.size≠g:=by have:=Hg.out;omega
   have xr1:=(XR.out.up HB4.out.2).stay hBS.out.2 hne1
   have hfin:=HRk.out
   rw [← HV.out.1,rowF_full,HV.out.1] at hfin
   obtain ⟨hown,hfz⟩:=hfin.cell HV.out.1 ci hci
   have hst:=hfin.store HV.out.1 ci t
   rw [HV.out.2.2.1] at hst
   have hgw:w.heap.size≤g:=by have:=Hg.out;omega
   have HF1:Hid (OwnK .i64 23 (R1.setCell ⟨g,ci,none⟩ (.int .i64 t)) g (.slice (some ⟨g,0,none⟩) k k) U∧Below w.heap.size w (R1.setCell ⟨g,ci,none⟩ (.int .i64 t))):=⟨hst,hBS.out.1.setCell (p:=⟨g,ci,none⟩) hgw _⟩
   have HXR:Hid (Cel (R1.setCell ⟨g,ci,none⟩ (.int .i64 t)) w.heap.size (.slice none 0 0) (.slice none 0 0)):=xr1.stay (Stay.refl _ _ |>.set _ _) hne1
   have hrow:Hid (∀ W,Calls Tryz.prog 64 #[.slice (some ⟨g,0,none⟩) k k] W fun e w'=>∃ g',e = .returned (.agg #[.slice (some ⟨g',0,none⟩) 1 1,.slice (some ⟨g,0,none⟩) k k])∧OwnK .i64 3 w' W.heap.size (.slice (some ⟨g',0,none⟩) 1 1) [(k:Int)]∧Below W.heap.size W w'):=fun W=>crowof_any _ k k W HV.out.2.2.2
   clear hfin xr1 hst
   go_wp2_with fail
   generalize hK:World.setCell _ _ _=K at HF1 HXR ⊢
   clear hK hown hfz
   refine (hrow.out K).mono ?_
   rintro e w6 ⟨g6,rfl,h6,hB6⟩
   have hs:g < K.heap.size:=HF1.out.1.size
   have HFT:Hid (TRes (set2 w6 w.heap.size (.slice (some ⟨g6,0,none⟩) 1 1) (.slice (some ⟨g,0,none⟩) k k)) W0.heap.size (.agg #[.slice (some ⟨g6,0,none⟩) 1 1,.slice (some ⟨g,0,none⟩) k k]) [(k:Int)] U∧Below w.heap.size w (set2 w6 w.heap.size (.slice (some ⟨g6,0,none⟩) 1 1) (.slice (some ⟨g,0,none⟩) k k))):=
    ⟨TRes.set (h6.low (by have:=Hg.out;omega)) ((HF1.out.1.up hB6).low (by have:=Hg.out;omega)) Hg.out.2,below_cell (bstep HF1.out.2 hB6) _ (Nat.le_refl _) _ _⟩
   have HFin:Hid (∃ g' g2 c2,Ending.returned (.agg #[.slice (some ⟨g6,0,none⟩) 1 1,.slice (some ⟨g,0,none⟩) k k]) = .returned (.agg #[.slice (some ⟨g',0,none⟩) 1 1,.slice (some ⟨g2,0,none⟩) k c2])∧OwnK .i64 3 (set2 w6 w.heap.size (.slice (some ⟨g6,0,none⟩) 1 1) (.slice (some ⟨g,0,none⟩) k k)) w.heap.size (.slice (some ⟨g',0,none⟩) 1 1) [(k:Int)]∧OwnK .i64 23 (set2 w6 w.heap.size (.slice (some ⟨g6,0,none⟩) 1 1) (.slice (some ⟨g,0,none⟩) k k)) w.heap.size (.slice (some ⟨g2,0,none⟩) k c2) U∧Below w.heap.size w (set2 w6 w.heap.size (.slice (some ⟨g6,0,none⟩) 1 1) (.slice (some ⟨g,0,none⟩) k k))):=by
    obtain ⟨s_,t_,e_,q1,q2⟩:=HFT.out.1
    cases e_
    exact ⟨_,_,_,rfl,q1.low HB0.out.size,q2.low HB0.out.size,HFT.out.2⟩
   have xr:=HXR.out.up hB6
   have cf:=xr.set (.slice (some ⟨g6,0,none⟩) 1 1) (.slice (some ⟨g,0,none⟩) k k)
   clear HFT h6 hB6 HF1 HXR hs
   obtain ⟨x0,x1,x2,x3⟩:=xr
   obtain ⟨f0,f1,_,_⟩:=cf
   go_wp2
   exact bodyPost_ret (v:=.agg #[.slice (some ⟨g6,0,none⟩) 1 1,.slice (some ⟨g,0,none⟩) k k]) (by first|(simp [results,Tryz.results66,go_sem];done)|(simp [results,Tryz.results66,go_sem,f0,f1])) rfl HFin.out
end Go.Proofs.YtjlofobnmjompaaGreatDoor.Wd
