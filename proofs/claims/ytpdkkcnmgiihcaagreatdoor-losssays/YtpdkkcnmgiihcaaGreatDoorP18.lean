/- The code's losses: rows that are made, what is asked first. · The code's losses: Square, Size, Hinge. · What Square, Size and Hinge leave on a tape where out is a row that fits. · Losses on a tape: its nodes stay tensors; two tapes side by side. -/
import Derived.Test.YtpdkkcnmgiihcaaGreatDoorP13
import Derived.Test.YtpdkkcnmgiihcaaGreatDoorP14
import Derived.Test.YtpdkkcnmgiihcaaGreatDoorP03
import Derived.Test.YtpdkkcnmgiihcaaGreatDoorP17
set_option linter.unusedVariables false
set_option linter.unusedSimpArgs false
set_option maxHeartbeats 16000000
set_option maxRecDepth 16000
namespace Go.Proofs.YtpdkkcnmgiihcaaGreatDoor.Wd
open Go.RowKit Fx
theorem crowof_any (p:Option Addr) (n c:Nat) (w:World) (hn:n≤4096):
  Calls Tryz.prog 30 #[.slice p n c] w fun e w'=>∃ g,e = .returned (.agg #[.slice (some ⟨g,0,none⟩) 1 1,.slice p n c])∧OwnK .i64 3 w' w.heap.size (.slice (some ⟨g,0,none⟩) 1 1) [(n:Int)]∧Below w.heap.size w w':=by
 have hn':(n:Int)≤4096:=by omega
 go_enter Tryz.func30,Tryz.ntmps30
 go_wp2
 have hB:Below w.heap.size w ((w.alloc (.cells #[.slice (some ⟨w.heap.size+1,0,none⟩) 1 1,.slice p n c] 31)).alloc (.cells #[.int .i64 (n:Int)] 3)):=by go_grown
 have hO:OwnK .i64 3 ((w.alloc (.cells #[.slice (some ⟨w.heap.size+1,0,none⟩) 1 1,.slice p n c] 31)).alloc (.cells #[.int .i64 (n:Int)] 3)) w.heap.size (.slice (some ⟨w.heap.size+1,0,none⟩) 1 1) [(n:Int)]:=by
  have h0:=own_lit (k:=.i64) (e:=3) (w.alloc (.cells #[.slice (some ⟨w.heap.size+1,0,none⟩) 1 1,.slice p n c] 31)) [(n:Int)] 1 rfl (by decide)
  rw [size_alloc] at h0
  exact h0.low (Nat.le_succ _)
 exact bodyPost_ret (v:=.agg #[.slice (some ⟨w.heap.size+1,0,none⟩) 1 1,.slice p n c]) (by simp [results,Tryz.results30,go_sem]) rfl ⟨_,rfl,hO,hB⟩
theorem cfits_any (B tb:Nat) (ns:List Nd) (hG:NodesG ns) (o:Int) (p:Option Addr) (n c:Nat) (y:List Int) (w:World) (hT:TapC w B tb ns) (h:Nums .i64 w (.slice p n c) y):
  Calls Tryz.prog 28 #[.pointer (some ⟨tb,0,none⟩),.int .i64 o,.slice p n c] w fun e w'=>e = .returned (.int .i64 (fitE ns o y))∧Below w.heap.size w w':=by
 obtain ⟨_,_,_,e4,HX⟩:=h.lst
 cases e4
 have hyn:=HX.out.1
 clear HX h
 by_cases ho:0≤o∧o < (ns.length:Int)
 case neg=>
  have e1:fitE ns o y=1:=if_neg fun h'=>ho h'.1
  rw [e1]
  have cv:=cvno_any B tb ns o (by omega) w hT
  clear e1 ho hyn hT hG
  go_enter Tryz.func28,Tryz.ntmps28
  go_wp2_with fail
  refine cv.mono ?_
  rintro e w1 ⟨rfl,hB1⟩
  have HB1:Hid (Below w.heap.size w w1):=hB1
  clear hB1 cv
  go_wp2
  go_ret
  exact ⟨rfl,bstep HB1.out (up_alloc _ _)⟩
 obtain ⟨i,rfl⟩:∃ i:Nat,o=(i:Int):=⟨o.toNat,by omega⟩
 have hi:ns[i]?=some (ns[i]'(by omega)):=List.getElem?_eq_getElem _
 have cv:=cvalue_any B tb ns hG i _ hi w hT
 have end_:=nd_at hi
 obtain ⟨nd,e5⟩:∃ nd,ns[i]'(by omega)=nd:=⟨_,rfl⟩
 rw [e5] at cv end_
 obtain ⟨E,eE⟩:∃ E,fitE ns (i:Int) y=E:=⟨_,rfl⟩
 have HE:Hid ((if y.length=nd.X.length then if nd.D.length=1 then (0:Int) else 4 else 1)=E):=by
  show _=_
  rw [← eE]
  unfold fitE
  rw [end_]
  by_cases h':y.length=nd.X.length
  ·exact (if_pos h').trans (if_pos (show (0≤(i:Int)∧(i:Int) < (ns.length:Int))∧y.length=nd.X.length from ⟨ho,h'⟩)).symm
  ·exact (if_neg h').trans (if_neg (show ¬ ((0≤(i:Int)∧(i:Int) < (ns.length:Int))∧y.length=nd.X.length) from fun h2=>h' h2.2)).symm
 rw [eE]
 clear eE ho hi end_ e5 hT hG
 obtain ⟨op,a,b,k,D,X⟩:=nd
 simp only [] at cv HE
 go_enter Tryz.func28,Tryz.ntmps28
 go_wp2_with fail
 refine cv.mono ?_
 rintro e w1 ⟨v,rfl,hv,hB1⟩
 obtain ⟨q,m,r,q2,m2,r2,rfl,h1,h2⟩:=hv.own
 obtain ⟨_,_,_,e6,H1⟩:=h1.nums.lst
 cases e6
 obtain ⟨_,_,_,e7,H2⟩:=h2.nums.lst
 cases e7
 have hE:=HE.out
 rw [hyn,H1.out.1,H2.out.1] at hE
 have HB1:Hid (Below w.heap.size w w1):=hB1
 clear hB1 cv h1 h2 H1 H2 hyn HE hv
 by_cases hm:n=m2
 case neg=>
  rw [if_neg hm] at hE
  subst hE
  have hm1:((n:Int) != (m2:Int))=true:=by simp;omega
  clear hm
  go_wp2
  go_ret
  exact ⟨rfl,bstep HB1.out (up_alloc _ _)⟩
 subst hm
 rw [if_pos rfl] at hE
 by_cases hd:m=1
 ·subst hd
  rw [if_pos rfl] at hE
  subst hE
  go_wp2
  go_ret
  exact ⟨rfl,bstep HB1.out (up_alloc _ _)⟩
 ·rw [if_neg hd] at hE
  subst hE
  have hm1:((m:Int) != 1)=true:=by simp;omega
  clear hd
  go_wp2
  go_ret
  exact ⟨rfl,bstep HB1.out (up_alloc _ _)⟩
theorem cplc_any (B tb:Nat) (ns:List Nd) (hG:NodesG ns) (o cl:Int) (w:World) (hT:TapC w B tb ns):
  Calls Tryz.prog 31 #[.pointer (some ⟨tb,0,none⟩),.int .i64 o,.int .i64 cl] w fun e w'=>e = .returned (.tuple #[.int .i64 (plcN ns o cl:Int),.int .i64 (plcE ns o cl)])∧Below w.heap.size w w':=by
 by_cases ho:0≤o∧o < (ns.length:Int)
 case neg=>
  have e1:plcE ns o cl=1:=if_neg ho
  have e2:plcN ns o cl=0:=if_neg (by rw [e1];decide)
  rw [e1,e2]
  have cv:=cvno_any B tb ns o (by omega) w hT
  clear e1 e2 ho hT hG
  go_enter Tryz.func31,Tryz.ntmps31
  go_wp2_with fail
  refine cv.mono ?_
  rintro e w1 ⟨rfl,hB1⟩
  have HB1:Hid (Below w.heap.size w w1):=hB1
  clear hB1 cv
  go_wp2
  go_ret2
  exact ⟨rfl,bstep HB1.out (up_alloc _ _)⟩
 obtain ⟨i,rfl⟩:∃ i:Nat,o=(i:Int):=⟨o.toNat,by omega⟩
 have hi:ns[i]?=some (ns[i]'(by omega)):=List.getElem?_eq_getElem _
 have cv:=cvalue_any B tb ns hG i _ hi w hT
 have end_:=nd_at hi
 obtain ⟨nd,e5⟩:∃ nd,ns[i]'(by omega)=nd:=⟨_,rfl⟩
 rw [e5] at cv end_
 obtain ⟨E,eE⟩:∃ E,plcE ns (i:Int) cl=E:=⟨_,rfl⟩
 obtain ⟨R,eR⟩:∃ R:Int,((plcN ns (i:Int) cl:Nat):Int)=R:=⟨_,rfl⟩
 have HE:Hid ((if nd.D.length=1∧0≤cl∧cl < (nd.X.length:Int) then ((nd.X.length:Int),(0:Int)) else (0,4))=(R,E)):=by
  show _=_
  rw [← eE,← eR]
  unfold plcN plcE
  rw [end_,if_pos ho]
  by_cases h':nd.D.length=1∧0≤cl∧cl < (nd.X.length:Int)
  ·rw [if_pos h',if_pos h',if_pos rfl]
  ·rw [if_neg h',if_neg h',if_neg (by decide)]
   rfl
 rw [eE,eR]
 clear eE eR ho hi end_ e5 hT hG
 obtain ⟨op,a,b,k,D,X⟩:=nd
 simp only [] at cv HE
 go_enter Tryz.func31,Tryz.ntmps31
 go_wp2_with fail
 refine cv.mono ?_
 rintro e w1 ⟨v,rfl,hv,hB1⟩
 obtain ⟨q,m,r,q2,m2,r2,rfl,h1,h2⟩:=hv.own
 obtain ⟨_,_,_,e6,H1⟩:=h1.nums.lst
 cases e6
 obtain ⟨_,_,_,e7,H2⟩:=h2.nums.lst
 cases e7
 have hE:=HE.out
 rw [H1.out.1,H2.out.1] at hE
 have HB1:Hid (Below w.heap.size w w1):=hB1
 clear hB1 cv h1 h2 H1 H2 HE hv
 by_cases hd:m=1
 case neg=>
  rw [if_neg fun h'=>hd h'.1] at hE
  cases hE
  have hm1:((m:Int) != 1)=true:=by simp;omega
  clear hd
  go_wp2
  go_ret2
  exact ⟨rfl,bstep HB1.out (up_alloc _ _)⟩
 subst hd
 by_cases hc0:cl < 0
 ·rw [if_neg fun h'=>by have:=h'.2.1;omega] at hE
  cases hE
  go_wp2
  go_ret2
  exact ⟨rfl,bstep HB1.out (up_alloc _ _)⟩
 by_cases hc1:(m2:Int)≤cl
 ·rw [if_neg fun h'=>by have:=h'.2.2;omega] at hE
  cases hE
  go_wp2
  go_ret2
  exact ⟨rfl,bstep HB1.out (up_alloc _ _)⟩
 rw [if_pos ⟨rfl,by omega,by omega⟩] at hE
 cases hE
 go_wp2
 go_ret2
 exact ⟨rfl,bstep HB1.out (up_alloc _ _)⟩
theorem crowbut_any (n:Nat) (hn:1≤n∧n≤4096) (a t:Int) (ci:Nat) (hci:ci < n) (w:World):
  Calls Tryz.prog 32 #[.int .i64 (n:Int),.int .i64 a,.int .i64 (ci:Int),.int .i64 t] w fun e w'=>∃ g g2 c2,e = .returned (.agg #[.slice (some ⟨g,0,none⟩) 1 1,.slice (some ⟨g2,0,none⟩) n c2])∧OwnK .i64 3 w' w.heap.size (.slice (some ⟨g,0,none⟩) 1 1) [(n:Int)]∧OwnK .i64 33 w' w.heap.size (.slice (some ⟨g2,0,none⟩) n c2) (butV n a (ci:Int) t)∧Below w.heap.size w w':=by
 obtain ⟨V,eV⟩:∃ V,List.replicate n a=V:=⟨_,rfl⟩
 obtain ⟨U,eU⟩:∃ U,butV n a (ci:Int) t=U:=⟨_,rfl⟩
 have HV:Hid (V.length=n∧(∀ k,k < n→V.getD k 0=a)∧V.set ci t=U∧n≤4096):=by
  refine ⟨by rw [← eV];simp,fun k hk=>?_,?_,hn.2⟩
  ·rw [← eV,List.getD_eq_getElem?_getD,List.getElem?_replicate,if_pos hk]
   rfl
  ·rw [← eV,← eU]
   rfl
 have hn':(n:Int)≤4096∧1≤(n:Int):=by omega
 have hci':(ci:Int) < (n:Int):=by omega
 rw [eU]
 clear eV eU
 go_enter Tryz.func32,Tryz.ntmps32
 go_wp2_with (at_make;generalize hW0:World.alloc _ _=W0;have HB0:=hidB (w:=w) hW0 (by go_grown);have XR:Hid (Cel W0 w.heap.size (.slice none 0 0) (.slice none 0 0)):=celW hW0 (by simp [go_sem]);clear hW0;refine wpList_makeK fixT (by decide) _ rfl (.tmp 11) (.tmp 11) rfl .i64 .i64 n n n rfl rfl rfl rfl (by omega) w.heap.size w HB0.out.size HB0.out ?_;intro w4 HO4 B4 B4';clear B4')
 obtain ⟨g,hg⟩:∃ g,W0.heap.size=g:=⟨_,rfl⟩
 have HB4:=hid2 (bstep HB0.out B4) B4
 rw [hg] at HO4 ⊢
 have hz:=cell_lt XR.out.1
 have Hg:Hid (W0.heap.size=g∧w.heap.size < W0.heap.size):=⟨hg,hz⟩
 have HO5:Hid (OwnK .i64 33 w4 g (.slice (some ⟨g,0,none⟩) n n) (rowF V 0)):=by
  show OwnK _ _ _ _ _ _
  rw [rowF_zero,HV.out.1]
  exact HO4.out
 clear HO4 B4 hg hz
 go_loopg [15] n (fun gg i wr=>∃ (k:Nat),k≤n∧gg=n - k∧i = .int .i64 (k:Int)∧Hid (OwnK .i64 33 wr g (.slice (some ⟨g,0,none⟩) n n) (rowF V k))∧Hid (Below w.heap.size w wr∧Stay g w4 wr))
 case atStart=>exact ⟨0,by omega,by omega,by first|rfl|simp,HO5,HB4.out.1,Stay.refl _ _⟩
 case round=>
  obtain ⟨k,hk,hg,rfl,HRk,hBS⟩:=hrel
  obtain ⟨R1,hR1⟩:∃ R1:World,R1=wr:=⟨_,rfl⟩
  subst hR1
  by_cases hkn:k < n
  ·have hk':(k:Int) < (n:Int):=by omega
   obtain ⟨hown,hfz⟩:=HRk.out.cell (by rw [rowF_len];exact HV.out.1) k hkn
   have H5:Hid (OwnK .i64 33 (R1.setCell ⟨g,k,none⟩ (.int .i64 a)) g (.slice (some ⟨g,0,none⟩) n n) (rowF V (k+1))):=by
    have:=HRk.out.store (by rw [rowF_len];exact HV.out.1) k a
    have hva:=HV.out.2.1 k hkn
    rw [← hva,rowF_set V k (by rw [HV.out.1];exact hkn)] at this
    rw [← hva]
    exact this
   have hgw:w.heap.size≤g:=by have:=Hg.out;omega
   have H6:Hid (Below w.heap.size w (R1.setCell ⟨g,k,none⟩ (.int .i64 a))∧Stay g w4 (R1.setCell ⟨g,k,none⟩ (.int .i64 a))):=⟨hBS.out.1.setCell (p:=⟨g,k,none⟩) hgw _,hBS.out.2.set _ _⟩
   go_wp2
   go_roundg (n - (k+1))
   case measure=>omega
   case rel=>exact ⟨k+1,by omega,rfl,by first|rfl|simp,H5,H6⟩
  ·obtain rfl:k=n:=by omega
   have hne1:w.heap.size≠g:=by have:=Hg.out;omega
   have xr1:=(XR.out.up HB4.out.2).stay hBS.out.2 hne1
   have hfin:=HRk.out
   rw [← HV.out.1,rowF_full,HV.out.1] at hfin
   obtain ⟨hown,hfz⟩:=hfin.cell HV.out.1 ci hci
   have hst:=hfin.store HV.out.1 ci t
   rw [HV.out.2.2.1] at hst
   have hgw:w.heap.size≤g:=by have:=Hg.out;omega
   have HF1:Hid (OwnK .i64 33 (R1.setCell ⟨g,ci,none⟩ (.int .i64 t)) g (.slice (some ⟨g,0,none⟩) k k) U∧Below w.heap.size w (R1.setCell ⟨g,ci,none⟩ (.int .i64 t))):=⟨hst,hBS.out.1.setCell (p:=⟨g,ci,none⟩) hgw _⟩
   have HXR:Hid (Cel (R1.setCell ⟨g,ci,none⟩ (.int .i64 t)) w.heap.size (.slice none 0 0) (.slice none 0 0)):=xr1.stay (Stay.refl _ _ |>.set _ _) hne1
   have hrow:Hid (∀ W,Calls Tryz.prog 30 #[.slice (some ⟨g,0,none⟩) k k] W fun e w'=>∃ g',e = .returned (.agg #[.slice (some ⟨g',0,none⟩) 1 1,.slice (some ⟨g,0,none⟩) k k])∧OwnK .i64 3 w' W.heap.size (.slice (some ⟨g',0,none⟩) 1 1) [(k:Int)]∧Below W.heap.size W w'):=fun W=>crowof_any _ k k W HV.out.2.2.2
   clear hfin xr1 hst
   go_wp2_with fail
   generalize hK:World.setCell _ _ _=K at HF1 HXR ⊢
   clear hK hown hfz
   refine (hrow.out K).mono ?_
   rintro e w6 ⟨g6,rfl,h6,hB6⟩
   have hs:g < K.heap.size:=HF1.out.1.size
   have HFT:Hid (TRes (set2 w6 w.heap.size (.slice (some ⟨g6,0,none⟩) 1 1) (.slice (some ⟨g,0,none⟩) k k)) W0.heap.size (.agg #[.slice (some ⟨g6,0,none⟩) 1 1,.slice (some ⟨g,0,none⟩) k k]) [(k:Int)] U∧Below w.heap.size w (set2 w6 w.heap.size (.slice (some ⟨g6,0,none⟩) 1 1) (.slice (some ⟨g,0,none⟩) k k))):=
    ⟨TRes.set (h6.low (by have:=Hg.out;omega)) ((HF1.out.1.up hB6).low (by have:=Hg.out;omega)) Hg.out.2,below_cell (bstep HF1.out.2 hB6) _ (Nat.le_refl _) _ _⟩
   have HFin:Hid (∃ g' g2 c2,Ending.returned (.agg #[.slice (some ⟨g6,0,none⟩) 1 1,.slice (some ⟨g,0,none⟩) k k]) = .returned (.agg #[.slice (some ⟨g',0,none⟩) 1 1,.slice (some ⟨g2,0,none⟩) k c2])∧OwnK .i64 3 (set2 w6 w.heap.size (.slice (some ⟨g6,0,none⟩) 1 1) (.slice (some ⟨g,0,none⟩) k k)) w.heap.size (.slice (some ⟨g',0,none⟩) 1 1) [(k:Int)]∧OwnK .i64 33 (set2 w6 w.heap.size (.slice (some ⟨g6,0,none⟩) 1 1) (.slice (some ⟨g,0,none⟩) k k)) w.heap.size (.slice (some ⟨g2,0,none⟩) k c2) U∧Below w.heap.size w (set2 w6 w.heap.size (.slice (some ⟨g6,0,none⟩) 1 1) (.slice (some ⟨g,0,none⟩) k k))):=by
    obtain ⟨s_,t_,e_,q1,q2⟩:=HFT.out.1
    cases e_
    exact ⟨_,_,_,rfl,q1.low HB0.out.size,q2.low HB0.out.size,HFT.out.2⟩
   have xr:=HXR.out.up hB6
   have cf:=xr.set (.slice (some ⟨g6,0,none⟩) 1 1) (.slice (some ⟨g,0,none⟩) k k)
   clear HFT h6 hB6 HF1 HXR hs
   obtain ⟨x0,x1,x2,x3⟩:=xr
   obtain ⟨f0,f1,_,_⟩:=cf
   go_wp2
   exact bodyPost_ret (v:=.agg #[.slice (some ⟨g6,0,none⟩) 1 1,.slice (some ⟨g,0,none⟩) k k]) (by first|(simp [results,Tryz.results32,go_sem];done)|(simp [results,Tryz.results32,go_sem,f0,f1])) rfl HFin.out
theorem csquare_any (B tb:Nat) (ns:List Nd) (hG:NodesG ns) (hl:ns.length≤512) (o:Int) (p:Option Addr) (n c:Nat) (y:List Int) (hy:RI y) (w:World) (hT:TapC w B tb ns) (hTz:Hid (∀ W,Below B w W→Tz W)) (h:KeptL B w (.slice p n c) y):
  Calls Tryz.prog 12 #[.pointer (some ⟨tb,0,none⟩),.int .i64 o,.slice p n c] w fun e w'=>e = .returned (.tuple #[.int .i64 (loR (fitE ns o y) ns (sqS (ns.length:Int) o y)),.int .i64 (loE (fitE ns o y) ns (sqS (ns.length:Int) o y))])∧TapC w' B tb (loN (fitE ns o y) ns (sqS (ns.length:Int) o y))∧Below B w w'∧Only SC w w'∧Spar2 tb w w':=by
 haveI:Nonempty World:=⟨w⟩
 have HZ:Hid (B≤w.heap.size):=by
  obtain ⟨hb,v,xs,hv,_⟩:=hT
  exact Nat.le_trans hb (Nat.le_of_lt (heap_lt hv))
 have cf:=cfits_any B tb ns hG o p n c y w hT h.nums
 have HT:Hid (TapC w B tb ns∧NodesG ns∧ns.length≤512):=⟨hT,hG,hl⟩
 by_cases he:fitE ns o y=0
 case neg=>
  rw [show loR (fitE ns o y) ns (sqS (ns.length:Int) o y)=0 from if_neg he,show loE (fitE ns o y) ns (sqS (ns.length:Int) o y)=fitE ns o y from if_neg he,show loN (fitE ns o y) ns (sqS (ns.length:Int) o y)=ns from if_neg he]
  obtain ⟨E,eE⟩:∃ E,fitE ns o y=E:=⟨_,rfl⟩
  rw [eE] at cf he ⊢
  have he':(E != 0)=true:=by simpa using he
  clear eE he h hT hG hTz hy
  go_enter Tryz.func12,Tryz.ntmps12
  go_wp2_with fail
  refine cf.mono ?_
  rintro e w1 ⟨rfl,hB1⟩
  have HF:Hid (TapC w1 B tb ns∧Below B w w1∧Only SC w w1∧Spar2 tb w w1):=⟨HT.out.1.up hB1,hB1.mono HZ.out,Only.of hB1,Spar2.of hB1⟩
  clear hB1 cf
  go_wp2
  go_ret2
  exact ⟨rfl,HF.out⟩
 have hfit:(0≤o∧o < (ns.length:Int))∧y.length=(ndN ns o).X.length:=by
  by_cases h':(0≤o∧o < (ns.length:Int))∧y.length=(ndN ns o).X.length
  ·exact h'
  ·exact absurd ((if_neg h').symm.trans he) (by decide)
 have hyl:y.length≤4096:=by
  have:=(hG.at hfit.1.1 hfit.1.2).1
  rw [hfit.2,this.2]
  exact this.1.2.2
 rw [he] at cf ⊢
 rw [show loR 0 ns (sqS (ns.length:Int) o y)=lyR ns (sqS (ns.length:Int) o y) from rfl,show loE 0 ns (sqS (ns.length:Int) o y)=lyE ns (sqS (ns.length:Int) o y) from rfl,show loN 0 ns (sqS (ns.length:Int) o y)=lyM ns (sqS (ns.length:Int) o y) from rfl]
 obtain ⟨_,_,_,e4,HX⟩:=h.nums.lst
 cases e4
 have hyn:=HX.out.1
 have HY:Hid (RI y∧y.length=n∧KeptL B w (.slice p n c) y):=⟨hy,hyn,h⟩
 obtain ⟨N,eN⟩:∃ N:Int,(ns.length:Int)=N:=⟨_,rfl⟩
 have hN:0≤N∧N≤512:=by omega
 have hO:0≤o∧o < N:=by omega
 have cln:Hid (∀ W,Below w.heap.size w W→Calls Tryz.prog 22 #[.pointer (some ⟨tb,0,none⟩)] W fun e w'=>e = .returned (.int .i64 N)∧w'=W):=fun W hW=>by
  rw [← eN]
  exact clen_any B tb ns W (hT.up hW)
 rw [eN]
 have hn:n≤4096:=by omega
 have HS:Hid (∀ i,i < (sqS N o y).length→StpOk (stA (sqS N o y) i)):=fun i hi=>by
  have h0:InR 0:=by unfold InR;omega
  match i,hi with
  | 0,_=>exact stp_leaf hy hyl
  | 1,_=>exact stp_op (by omega) (by unfold InR;omega) (by unfold InR;omega) h0
  | 2,_=>exact stp_op (by omega) (by unfold InR;omega) (by unfold InR;omega) (by unfold InR;omega)
  | 3,_=>exact stp_op (by omega) (by unfold InR;omega) h0 h0
 have hn':(n:Int)≤4096:=by omega
 obtain ⟨R,eR⟩:∃ R,lyR ns (sqS N o y)=R:=⟨_,rfl⟩
 obtain ⟨E,eE⟩:∃ R,lyE ns (sqS N o y)=R:=⟨_,rfl⟩
 obtain ⟨NS,eNS⟩:∃ R,lyM ns (sqS N o y)=R:=⟨_,rfl⟩
 have HRE:Hid (lyR ns (sqS N o y)=R∧lyE ns (sqS N o y)=E∧lyM ns (sqS N o y)=NS):=⟨eR,eE,eNS⟩
 rw [eR,eE,eNS]
 clear he hfit hyl HX hyn h hy hT hG hl eN eR eE eNS
 go_enter Tryz.func12,Tryz.ntmps12
 go_wp2_with fail
 refine cf.mono ?_
 rintro e w1 ⟨rfl,hB1⟩
 have HB1:Hid (Below w.heap.size w w1):=hB1
 clear hB1 cf
 go_wp2_with fail
 refine (cln.out w1 HB1.out).mono ?_
 rintro e w2 ⟨rfl,rfl⟩
 clear cln
 go_wp2_with fail
 refine (crowof_any p n c w2 hn).mono ?_
 rintro e w3 ⟨g3,rfl,h3,hB3⟩
 have H3:Hid (OwnK .i64 3 w3 w2.heap.size (.slice (some ⟨g3,0,none⟩) 1 1) [(n:Int)]∧Below w.heap.size w w3):=⟨h3,bstep HB1.out hB3⟩
 clear h3 hB3
 go_wp2_with fail
 generalize hK:World.alloc _ _=K
 have hB4:Below w3.heap.size w3 K:=by rw [← hK];exact up_alloc w3 _
 have hL:K.heap[w3.heap.size]?=some (.cells [.int .i64 1,.int .i64 0,.int .i64 0,.int .i64 0,.slice (some ⟨g3,0,none⟩) 1 1,.slice p n c,.int .i64 3,.int .i64 o,.int .i64 N,.int .i64 0,.slice none 0 0,.slice none 0 0,.int .i64 4,.int .i64 (N+1),.int .i64 (N+1),.int .i64 0,.slice none 0 0,.slice none 0 0,.int .i64 10,.int .i64 (N+2),.int .i64 0,.int .i64 0,.slice none 0 0,.slice none 0 0].toArray 71 (0,0)):=by rw [← hK];exact heap_alloc_new _ _
 have hb:Below w.heap.size w K:=bstep H3.out.2 hB4
 have hBK:Below B w K:=hb.mono HZ.out
 have cl:=clay_any B tb ns HT.out.2.1 (sqS N o y) HS.out HT.out.2.2 w3.heap.size 4 _ rfl (by omega) K (HT.out.1.up hb) (show Hid _ from fun W hW=>hTz.out W (hBK.trans hW)) hL (fun i hi=>by
  match i,hi with
  | 0,_=>exact ⟨_,_,_,_,_,_,rfl,rfl,rfl,rfl,rfl,rfl,by show KeptL _ _ _ [(y.length:Int)];rw [HY.out.2.1];exact (H3.out.1.up hB4).keptL (by decide),HY.out.2.2.up hBK (Only.of hb)⟩
  | 1,_=>exact ⟨_,_,_,_,_,_,rfl,rfl,rfl,rfl,rfl,rfl,KeptL.nil _ _,KeptL.nil _ _⟩
  | 2,_=>exact ⟨_,_,_,_,_,_,rfl,rfl,rfl,rfl,rfl,rfl,KeptL.nil _ _,KeptL.nil _ _⟩
  | 3,_=>exact ⟨_,_,_,_,_,_,rfl,rfl,rfl,rfl,rfl,rfl,KeptL.nil _ _,KeptL.nil _ _⟩)
 have HK:Hid (Below w.heap.size w K):=hb
 rw [HRE.out.1,HRE.out.2.1,HRE.out.2.2] at cl
 clear hK hB4 hL hb hBK HS HRE
 refine cl.mono ?_
 rintro e w5 ⟨rfl,hT5,hB5,hO5,hS5⟩
 have HF:Hid (TapC w5 B tb NS∧Below B w w5∧Only SC w w5∧Spar2 tb w w5):=⟨hT5,(HK.out.mono HZ.out).trans hB5,(Only.of HK.out).trans hO5,Spar2.trans (Spar2.of HK.out) hS5 HK.out.size⟩
 clear hT5 hB5 hO5 hS5 cl
 go_wp2
 go_ret2
 exact ⟨rfl,HF.out⟩
theorem csize_any (B tb:Nat) (ns:List Nd) (hG:NodesG ns) (hl:ns.length≤512) (o:Int) (p:Option Addr) (n c:Nat) (y:List Int) (hy:RI y) (w:World) (hT:TapC w B tb ns) (hTz:Hid (∀ W,Below B w W→Tz W)) (h:KeptL B w (.slice p n c) y):
  Calls Tryz.prog 13 #[.pointer (some ⟨tb,0,none⟩),.int .i64 o,.slice p n c] w fun e w'=>e = .returned (.tuple #[.int .i64 (loR (fitE ns o y) ns (szS (ns.length:Int) o y)),.int .i64 (loE (fitE ns o y) ns (szS (ns.length:Int) o y))])∧TapC w' B tb (loN (fitE ns o y) ns (szS (ns.length:Int) o y))∧Below B w w'∧Only SC w w'∧Spar2 tb w w':=by
 haveI:Nonempty World:=⟨w⟩
 have HZ:Hid (B≤w.heap.size):=by
  obtain ⟨hb,v,xs,hv,_⟩:=hT
  exact Nat.le_trans hb (Nat.le_of_lt (heap_lt hv))
 have cf:=cfits_any B tb ns hG o p n c y w hT h.nums
 have HT:Hid (TapC w B tb ns∧NodesG ns∧ns.length≤512):=⟨hT,hG,hl⟩
 by_cases he:fitE ns o y=0
 case neg=>
  rw [show loR (fitE ns o y) ns (szS (ns.length:Int) o y)=0 from if_neg he,show loE (fitE ns o y) ns (szS (ns.length:Int) o y)=fitE ns o y from if_neg he,show loN (fitE ns o y) ns (szS (ns.length:Int) o y)=ns from if_neg he]
  obtain ⟨E,eE⟩:∃ E,fitE ns o y=E:=⟨_,rfl⟩
  rw [eE] at cf he ⊢
  have he':(E != 0)=true:=by simpa using he
  clear eE he h hT hG hTz hy
  go_enter Tryz.func13,Tryz.ntmps13
  go_wp2_with fail
  refine cf.mono ?_
  rintro e w1 ⟨rfl,hB1⟩
  have HF:Hid (TapC w1 B tb ns∧Below B w w1∧Only SC w w1∧Spar2 tb w w1):=⟨HT.out.1.up hB1,hB1.mono HZ.out,Only.of hB1,Spar2.of hB1⟩
  clear hB1 cf
  go_wp2
  go_ret2
  exact ⟨rfl,HF.out⟩
 have hfit:(0≤o∧o < (ns.length:Int))∧y.length=(ndN ns o).X.length:=by
  by_cases h':(0≤o∧o < (ns.length:Int))∧y.length=(ndN ns o).X.length
  ·exact h'
  ·exact absurd ((if_neg h').symm.trans he) (by decide)
 have hyl:y.length≤4096:=by
  have:=(hG.at hfit.1.1 hfit.1.2).1
  rw [hfit.2,this.2]
  exact this.1.2.2
 rw [he] at cf ⊢
 rw [show loR 0 ns (szS (ns.length:Int) o y)=lyR ns (szS (ns.length:Int) o y) from rfl,show loE 0 ns (szS (ns.length:Int) o y)=lyE ns (szS (ns.length:Int) o y) from rfl,show loN 0 ns (szS (ns.length:Int) o y)=lyM ns (szS (ns.length:Int) o y) from rfl]
 obtain ⟨_,_,_,e4,HX⟩:=h.nums.lst
 cases e4
 have hyn:=HX.out.1
 have HY:Hid (RI y∧y.length=n∧KeptL B w (.slice p n c) y):=⟨hy,hyn,h⟩
 obtain ⟨N,eN⟩:∃ N:Int,(ns.length:Int)=N:=⟨_,rfl⟩
 have hN:0≤N∧N≤512:=by omega
 have hO:0≤o∧o < N:=by omega
 have cln:Hid (∀ W,Below w.heap.size w W→Calls Tryz.prog 22 #[.pointer (some ⟨tb,0,none⟩)] W fun e w'=>e = .returned (.int .i64 N)∧w'=W):=fun W hW=>by
  rw [← eN]
  exact clen_any B tb ns W (hT.up hW)
 rw [eN]
 have hn:n≤4096:=by omega
 have HS:Hid (∀ i,i < (szS N o y).length→StpOk (stA (szS N o y) i)):=fun i hi=>by
  have h0:InR 0:=by unfold InR;omega
  match i,hi with
  | 0,_=>exact stp_leaf hy hyl
  | 1,_=>exact stp_op (by omega) (by unfold InR;omega) (by unfold InR;omega) h0
  | 2,_=>exact stp_op (by omega) (by unfold InR;omega) (by unfold InR;omega) (by unfold InR;omega)
  | 3,_=>exact stp_op (by omega) (by unfold InR;omega) h0 h0
 have hn':(n:Int)≤4096:=by omega
 obtain ⟨R,eR⟩:∃ R,lyR ns (szS N o y)=R:=⟨_,rfl⟩
 obtain ⟨E,eE⟩:∃ R,lyE ns (szS N o y)=R:=⟨_,rfl⟩
 obtain ⟨NS,eNS⟩:∃ R,lyM ns (szS N o y)=R:=⟨_,rfl⟩
 have HRE:Hid (lyR ns (szS N o y)=R∧lyE ns (szS N o y)=E∧lyM ns (szS N o y)=NS):=⟨eR,eE,eNS⟩
 rw [eR,eE,eNS]
 clear he hfit hyl HX hyn h hy hT hG hl eN eR eE eNS
 go_enter Tryz.func13,Tryz.ntmps13
 go_wp2_with fail
 refine cf.mono ?_
 rintro e w1 ⟨rfl,hB1⟩
 have HB1:Hid (Below w.heap.size w w1):=hB1
 clear hB1 cf
 go_wp2_with fail
 refine (cln.out w1 HB1.out).mono ?_
 rintro e w2 ⟨rfl,rfl⟩
 clear cln
 go_wp2_with fail
 refine (crowof_any p n c w2 hn).mono ?_
 rintro e w3 ⟨g3,rfl,h3,hB3⟩
 have H3:Hid (OwnK .i64 3 w3 w2.heap.size (.slice (some ⟨g3,0,none⟩) 1 1) [(n:Int)]∧Below w.heap.size w w3):=⟨h3,bstep HB1.out hB3⟩
 clear h3 hB3
 go_wp2_with fail
 generalize hK:World.alloc _ _=K
 have hB4:Below w3.heap.size w3 K:=by rw [← hK];exact up_alloc w3 _
 have hL:K.heap[w3.heap.size]?=some (.cells [.int .i64 1,.int .i64 0,.int .i64 0,.int .i64 0,.slice (some ⟨g3,0,none⟩) 1 1,.slice p n c,.int .i64 3,.int .i64 o,.int .i64 N,.int .i64 0,.slice none 0 0,.slice none 0 0,.int .i64 11,.int .i64 (N+1),.int .i64 0,.int .i64 4,.slice none 0 0,.slice none 0 0,.int .i64 10,.int .i64 (N+2),.int .i64 0,.int .i64 0,.slice none 0 0,.slice none 0 0].toArray 71 (0,0)):=by rw [← hK];exact heap_alloc_new _ _
 have hb:Below w.heap.size w K:=bstep H3.out.2 hB4
 have hBK:Below B w K:=hb.mono HZ.out
 have cl:=clay_any B tb ns HT.out.2.1 (szS N o y) HS.out HT.out.2.2 w3.heap.size 4 _ rfl (by omega) K (HT.out.1.up hb) (show Hid _ from fun W hW=>hTz.out W (hBK.trans hW)) hL (fun i hi=>by
  match i,hi with
  | 0,_=>exact ⟨_,_,_,_,_,_,rfl,rfl,rfl,rfl,rfl,rfl,by show KeptL _ _ _ [(y.length:Int)];rw [HY.out.2.1];exact (H3.out.1.up hB4).keptL (by decide),HY.out.2.2.up hBK (Only.of hb)⟩
  | 1,_=>exact ⟨_,_,_,_,_,_,rfl,rfl,rfl,rfl,rfl,rfl,KeptL.nil _ _,KeptL.nil _ _⟩
  | 2,_=>exact ⟨_,_,_,_,_,_,rfl,rfl,rfl,rfl,rfl,rfl,KeptL.nil _ _,KeptL.nil _ _⟩
  | 3,_=>exact ⟨_,_,_,_,_,_,rfl,rfl,rfl,rfl,rfl,rfl,KeptL.nil _ _,KeptL.nil _ _⟩)
 have HK:Hid (Below w.heap.size w K):=hb
 rw [HRE.out.1,HRE.out.2.1,HRE.out.2.2] at cl
 clear hK hB4 hL hb hBK HS HRE
 refine cl.mono ?_
 rintro e w5 ⟨rfl,hT5,hB5,hO5,hS5⟩
 have HF:Hid (TapC w5 B tb NS∧Below B w w5∧Only SC w w5∧Spar2 tb w w5):=⟨hT5,(HK.out.mono HZ.out).trans hB5,(Only.of HK.out).trans hO5,Spar2.trans (Spar2.of HK.out) hS5 HK.out.size⟩
 clear hT5 hB5 hO5 hS5 cl
 go_wp2
 go_ret2
 exact ⟨rfl,HF.out⟩
theorem RI_but {m:Nat} {a c t:Int} (ha:InR a) (ht:InR t):RI (butV m a c t):=fun y hy=>by
 rcases List.mem_or_eq_of_mem_set hy with h|h
 ·rw [(List.mem_replicate.1 h).2]
  exact ha
 ·rw [h]
  exact ht
theorem but_length (m:Nat) (a c t:Int):(butV m a c t).length=m:=by simp [butV]
theorem chinge_any (B tb:Nat) (ns:List Nd) (hG:NodesG ns) (hl:ns.length≤512) (o cl:Int) (w:World) (hT:TapC w B tb ns) (hTz:Hid (∀ W,Below B w W→Tz W)):
  Calls Tryz.prog 14 #[.pointer (some ⟨tb,0,none⟩),.int .i64 o,.int .i64 cl] w fun e w'=>e = .returned (.tuple #[.int .i64 (loR (plcE ns o cl) ns (hgS (ns.length:Int) o (plcN ns o cl) cl)),.int .i64 (loE (plcE ns o cl) ns (hgS (ns.length:Int) o (plcN ns o cl) cl))])∧TapC w' B tb (loN (plcE ns o cl) ns (hgS (ns.length:Int) o (plcN ns o cl) cl))∧Below B w w'∧Only SC w w'∧Spar2 tb w w':=by
 haveI:Nonempty World:=⟨w⟩
 have HZ:Hid (B≤w.heap.size):=by
  obtain ⟨hb,v,xs,hv,_⟩:=hT
  exact Nat.le_trans hb (Nat.le_of_lt (heap_lt hv))
 have cf:=cplc_any B tb ns hG o cl w hT
 have HT:Hid (TapC w B tb ns∧NodesG ns∧ns.length≤512):=⟨hT,hG,hl⟩
 by_cases he:plcE ns o cl=0
 case neg=>
  have e0:∀ n,loR (plcE ns o cl) ns (hgS (ns.length:Int) o n cl)=0:=fun n=>if_neg he
  have e1:∀ n,loE (plcE ns o cl) ns (hgS (ns.length:Int) o n cl)=plcE ns o cl:=fun n=>if_neg he
  have e2:∀ n,loN (plcE ns o cl) ns (hgS (ns.length:Int) o n cl)=ns:=fun n=>if_neg he
  rw [e0,e1,e2]
  have e3:plcN ns o cl=0:=if_neg he
  rw [e3] at cf
  obtain ⟨E,eE⟩:∃ E,plcE ns o cl=E:=⟨_,rfl⟩
  rw [eE] at cf he ⊢
  have he':(E != 0)=true:=by simpa using he
  clear eE he hT hG hTz e0 e1 e2 e3
  go_enter Tryz.func14,Tryz.ntmps14
  go_wp2_with fail
  refine cf.mono ?_
  rintro e w1 ⟨rfl,hB1⟩
  have HF:Hid (TapC w1 B tb ns∧Below B w w1∧Only SC w w1∧Spar2 tb w w1):=⟨HT.out.1.up hB1,hB1.mono HZ.out,Only.of hB1,Spar2.of hB1⟩
  clear hB1 cf
  go_wp2
  go_ret2
  exact ⟨rfl,HF.out⟩
 have ho:0≤o∧o < (ns.length:Int):=by
  by_cases h':0≤o∧o < (ns.length:Int)
  ·exact h'
  ·exact absurd ((if_neg h').symm.trans he) (by decide)
 have hcl:0≤cl∧cl < ((ndN ns o).X.length:Int):=by
  by_cases h':(ndN ns o).D.length=1∧0≤cl∧cl < ((ndN ns o).X.length:Int)
  ·exact h'.2
  ·exact absurd (((if_pos ho).trans (if_neg h')).symm.trans he) (by decide)
 have hx4:(ndN ns o).X.length≤4096:=by
  have:=(hG.at ho.1 ho.2).1
  rw [this.2]
  exact this.1.2.2
 have en:plcN ns o cl=(ndN ns o).X.length:=if_pos he
 rw [he] at cf ⊢
 obtain ⟨n,en2⟩:∃ n,plcN ns o cl=n:=⟨_,rfl⟩
 rw [en2] at cf ⊢
 rw [en2] at en
 have hn:1≤n∧n≤4096:=by omega
 obtain ⟨ci,rfl⟩:∃ ci:Nat,cl=(ci:Int):=⟨cl.toNat,by omega⟩
 have hci:ci < n:=by omega
 rw [show loR 0 ns (hgS (ns.length:Int) o n (ci:Int))=lyR ns (hgS (ns.length:Int) o n (ci:Int)) from rfl,show loE 0 ns (hgS (ns.length:Int) o n (ci:Int))=lyE ns (hgS (ns.length:Int) o n (ci:Int)) from rfl,show loN 0 ns (hgS (ns.length:Int) o n (ci:Int))=lyM ns (hgS (ns.length:Int) o n (ci:Int)) from rfl]
 obtain ⟨N,eN⟩:∃ N:Int,(ns.length:Int)=N:=⟨_,rfl⟩
 have hN:0≤N∧N≤512:=by omega
 have hO:0≤o∧o < N:=by omega
 have cln:Hid (∀ W,Below w.heap.size w W→Calls Tryz.prog 22 #[.pointer (some ⟨tb,0,none⟩)] W fun e w'=>e = .returned (.int .i64 N)∧w'=W):=fun W hW=>by
  rw [← eN]
  exact clen_any B tb ns W (hT.up hW)
 rw [eN]
 have HS:Hid (∀ i,i < (hgS N o n (ci:Int)).length→StpOk (stA (hgS N o n (ci:Int)) i)):=fun i hi=>by
  match i,hi with
  | 0,_=>exact stp_leaf (RI_but (by unfold InR;omega) (by unfold InR;omega)) (by rw [but_length];exact hn.2)
  | 1,_=>exact stp_leaf (RI_but (by unfold InR;omega) (by unfold InR;omega)) (by rw [but_length];exact hn.2)
  | 2,_=>exact stp_op (by omega) (by unfold InR;omega) (by unfold InR;omega) (by unfold InR;omega)
  | 3,_=>exact stp_op (by omega) (by unfold InR;omega) (by unfold InR;omega) (by unfold InR;omega)
  | 4,_=>exact stp_op (by omega) (by unfold InR;omega) (by unfold InR;omega) (by unfold InR;omega)
  | 5,_=>exact stp_op (by omega) (by unfold InR;omega) (by unfold InR;omega) (by unfold InR;omega)
  | 6,_=>exact stp_op (by omega) (by unfold InR;omega) (by unfold InR;omega) (by unfold InR;omega)
  | 7,_=>exact stp_op (by omega) (by unfold InR;omega) (by unfold InR;omega) (by unfold InR;omega)
  | 8,_=>exact stp_op (by omega) (by unfold InR;omega) (by unfold InR;omega) (by unfold InR;omega)
 have hn':(n:Int)≤4096∧1≤(n:Int):=by omega
 have hci':(ci:Int) < (n:Int):=by omega
 obtain ⟨R,eR⟩:∃ R,lyR ns (hgS N o n (ci:Int))=R:=⟨_,rfl⟩
 obtain ⟨E,eE⟩:∃ R,lyE ns (hgS N o n (ci:Int))=R:=⟨_,rfl⟩
 obtain ⟨NS,eNS⟩:∃ R,lyM ns (hgS N o n (ci:Int))=R:=⟨_,rfl⟩
 have HRE:Hid (lyR ns (hgS N o n (ci:Int))=R∧lyE ns (hgS N o n (ci:Int))=E∧lyM ns (hgS N o n (ci:Int))=NS):=⟨eR,eE,eNS⟩
 rw [eR,eE,eNS]
 clear he ho hcl hx4 en en2 hT hG hl eN eR eE eNS
 go_enter Tryz.func14,Tryz.ntmps14
 go_wp2_with fail
 refine cf.mono ?_
 rintro e w1 ⟨rfl,hB1⟩
 have HB1:Hid (Below w.heap.size w w1):=hB1
 clear hB1 cf
 go_wp2_with fail
 refine (cln.out w1 HB1.out).mono ?_
 rintro e w2 ⟨rfl,rfl⟩
 go_wp2_with fail
 refine (cln.out w2 HB1.out).mono ?_
 rintro e w22 ⟨rfl,rfl⟩
 clear cln
 go_wp2_with fail
 refine (crowbut_any n hn 0 (-4294967296) ci hci w22).mono ?_
 rintro e w3 ⟨g3,f3,c3,rfl,h3,k3,hB3⟩
 have H3:Hid (OwnK .i64 3 w3 w22.heap.size (.slice (some ⟨g3,0,none⟩) 1 1) [(n:Int)]∧OwnK .i64 33 w3 w22.heap.size (.slice (some ⟨f3,0,none⟩) n c3) (butV n 0 (ci:Int) (-4294967296))∧Below w.heap.size w w3):=⟨h3,k3,bstep HB1.out hB3⟩
 clear h3 k3 hB3
 go_wp2_with fail
 refine (crowbut_any n hn 4294967296 0 ci hci w3).mono ?_
 rintro e w4 ⟨g4,f4,c4,rfl,h4,k4,hB4⟩
 have H4:Hid (OwnK .i64 3 w4 w3.heap.size (.slice (some ⟨g4,0,none⟩) 1 1) [(n:Int)]∧OwnK .i64 33 w4 w3.heap.size (.slice (some ⟨f4,0,none⟩) n c4) (butV n 4294967296 (ci:Int) 0)∧Below w3.heap.size w3 w4):=⟨h4,k4,hB4⟩
 clear h4 k4 hB4
 go_wp2_with fail
 generalize hK:World.alloc _ _=K
 have hB5:Below w4.heap.size w4 K:=by rw [← hK];exact up_alloc w4 _
 have hL:K.heap[w4.heap.size]?=some (.cells [.int .i64 1,.int .i64 0,.int .i64 0,.int .i64 0,.slice (some ⟨g3,0,none⟩) 1 1,.slice (some ⟨f3,0,none⟩) n c3,.int .i64 1,.int .i64 0,.int .i64 0,.int .i64 0,.slice (some ⟨g4,0,none⟩) 1 1,.slice (some ⟨f4,0,none⟩) n c4,.int .i64 4,.int .i64 o,.int .i64 N,.int .i64 0,.slice none 0 0,.slice none 0 0,.int .i64 9,.int .i64 (N+2),.int .i64 0,.int .i64 0,.slice none 0 0,.slice none 0 0,.int .i64 2,.int .i64 o,.int .i64 (N+3),.int .i64 0,.slice none 0 0,.slice none 0 0,.int .i64 2,.int .i64 (N+4),.int .i64 (N+1),.int .i64 0,.slice none 0 0,.slice none 0 0,.int .i64 11,.int .i64 (N+5),.int .i64 0,.int .i64 1,.slice none 0 0,.slice none 0 0,.int .i64 4,.int .i64 (N+6),.int .i64 (N+1),.int .i64 0,.slice none 0 0,.slice none 0 0,.int .i64 9,.int .i64 (N+7),.int .i64 0,.int .i64 0,.slice none 0 0,.slice none 0 0].toArray 71 (0,0)):=by rw [← hK];exact heap_alloc_new _ _
 have hb3:Below w3.heap.size w3 K:=bstep H4.out.2.2 hB5
 have hb:Below w.heap.size w K:=bstep H3.out.2.2 hb3
 have hBK:Below B w K:=hb.mono HZ.out
 have cl:=clay_any B tb ns HT.out.2.1 (hgS N o n (ci:Int)) HS.out HT.out.2.2 w4.heap.size 9 _ rfl (by omega) K (HT.out.1.up hb) (show Hid _ from fun W hW=>hTz.out W (hBK.trans hW)) hL (fun i hi=>by
  match i,hi with
  | 0,_=>exact ⟨_,_,_,_,_,_,rfl,rfl,rfl,rfl,rfl,rfl,by show KeptL _ _ _ [((butV n 0 (ci:Int) (-4294967296)).length:Int)];rw [but_length];exact (H3.out.1.up hb3).keptL (by decide),(H3.out.2.1.up hb3).keptL (by decide)⟩
  | 1,_=>exact ⟨_,_,_,_,_,_,rfl,rfl,rfl,rfl,rfl,rfl,by show KeptL _ _ _ [((butV n 4294967296 (ci:Int) 0).length:Int)];rw [but_length];exact (H4.out.1.up hB5).keptL (by decide),(H4.out.2.1.up hB5).keptL (by decide)⟩
  | 2,_=>exact ⟨_,_,_,_,_,_,rfl,rfl,rfl,rfl,rfl,rfl,KeptL.nil _ _,KeptL.nil _ _⟩
  | 3,_=>exact ⟨_,_,_,_,_,_,rfl,rfl,rfl,rfl,rfl,rfl,KeptL.nil _ _,KeptL.nil _ _⟩
  | 4,_=>exact ⟨_,_,_,_,_,_,rfl,rfl,rfl,rfl,rfl,rfl,KeptL.nil _ _,KeptL.nil _ _⟩
  | 5,_=>exact ⟨_,_,_,_,_,_,rfl,rfl,rfl,rfl,rfl,rfl,KeptL.nil _ _,KeptL.nil _ _⟩
  | 6,_=>exact ⟨_,_,_,_,_,_,rfl,rfl,rfl,rfl,rfl,rfl,KeptL.nil _ _,KeptL.nil _ _⟩
  | 7,_=>exact ⟨_,_,_,_,_,_,rfl,rfl,rfl,rfl,rfl,rfl,KeptL.nil _ _,KeptL.nil _ _⟩
  | 8,_=>exact ⟨_,_,_,_,_,_,rfl,rfl,rfl,rfl,rfl,rfl,KeptL.nil _ _,KeptL.nil _ _⟩)
 have HK:Hid (Below w.heap.size w K):=hb
 rw [HRE.out.1,HRE.out.2.1,HRE.out.2.2] at cl
 clear hK hB5 hL hb hBK hb3 HS HRE
 refine cl.mono ?_
 rintro e w5 ⟨rfl,hT5,hB5,hO5,hS5⟩
 have HF:Hid (TapC w5 B tb NS∧Below B w w5∧Only SC w w5∧Spar2 tb w w5):=⟨hT5,(HK.out.mono HZ.out).trans hB5,(Only.of HK.out).trans hO5,Spar2.trans (Spar2.of HK.out) hS5 HK.out.size⟩
 clear hT5 hB5 hO5 hS5 cl
 go_wp2
 go_ret2
 exact ⟨rfl,HF.out⟩
def dif (x y:List Int):List Int:=mp2 (fun p q=>Fx.hold (p - q)) x y
def sqV (x y:List Int):List Int:=mp2 Fx.mulI (dif x y) (dif x y)
def szV (x y:List Int):List Int:=(dif x y).map fun v=>Fx.bendI 4 v
def lf1 (ms:List Nd) (n:Nat) (y:List Int):List Nd:=ms++[⟨1,-1,-1,0,[(n:Int)],y⟩]
def df2 (ms:List Nd) (o:Int) (n:Nat) (x y:List Int):List Nd:=lf1 ms n y++[⟨3,o,(ms.length:Int),0,[(n:Int)],dif x y⟩]
def sq3 (ms:List Nd) (o:Int) (n:Nat) (x y:List Int):List Nd:=df2 ms o n x y++[⟨4,(ms.length:Int)+1,(ms.length:Int)+1,0,[(n:Int)],sqV x y⟩]
def sq4 (ms:List Nd) (o:Int) (n:Nat) (x y:List Int):List Nd:=sq3 ms o n x y++[⟨10,(ms.length:Int)+2,-1,0,[],[meanI (sqV x y)]⟩]
def sz3 (ms:List Nd) (o:Int) (n:Nat) (x y:List Int):List Nd:=df2 ms o n x y++[⟨11,(ms.length:Int)+1,-1,4,[(n:Int)],szV x y⟩]
def sz4 (ms:List Nd) (o:Int) (n:Nat) (x y:List Int):List Nd:=sz3 ms o n x y++[⟨10,(ms.length:Int)+2,-1,0,[],[meanI (szV x y)]⟩]
theorem lf1_len (ms:List Nd) (n:Nat) (y:List Int):(lf1 ms n y).length=ms.length+1:=len_app _ _
theorem df2_len (ms:List Nd) (o:Int) (n:Nat) (x y:List Int):(df2 ms o n x y).length=ms.length+2:=(len_app _ _).trans (by rw [lf1_len])
theorem sq3_len (ms:List Nd) (o:Int) (n:Nat) (x y:List Int):(sq3 ms o n x y).length=ms.length+3:=(len_app _ _).trans (by rw [df2_len])
theorem sq4_len (ms:List Nd) (o:Int) (n:Nat) (x y:List Int):(sq4 ms o n x y).length=ms.length+4:=(len_app _ _).trans (by rw [sq3_len])
theorem sz3_len (ms:List Nd) (o:Int) (n:Nat) (x y:List Int):(sz3 ms o n x y).length=ms.length+3:=(len_app _ _).trans (by rw [df2_len])
theorem sz4_len (ms:List Nd) (o:Int) (n:Nat) (x y:List Int):(sz4 ms o n x y).length=ms.length+4:=(len_app _ _).trans (by rw [sz3_len])
/-- A row of a tape, and one that is held against it. -/
structure Fit (ms:List Nd) (o:Int) (n:Nat) (x y:List Int) (m:Nat):Prop where
 hx:RwP n x
 hy:RwP n y
 ho:RwN ms o n x
 hl:ms.length+m≤512
theorem Fit.dif {ms:List Nd} {o:Int} {n m:Nat} {x y:List Int} (h:Fit ms o n x y m):RwP n (dif x y):=h.hx.map2 _
theorem Fit.sq {ms:List Nd} {o:Int} {n m:Nat} {x y:List Int} (h:Fit ms o n x y m):RwP n (sqV x y):=h.dif.map2 _
theorem Fit.sz {ms:List Nd} {o:Int} {n m:Nat} {x y:List Int} (h:Fit ms o n x y m):RwP n (szV x y):=h.dif.map _
theorem Fit.e {ms:List Nd} {o:Int} {n m:Nat} {x y:List Int} (h:Fit ms o n x y m):fitE ms o y=0:=by
 unfold fitE
 rw [if_pos ⟨h.ho.r,by rw [h.ho.X,h.hx.l,h.hy.l]⟩,if_pos (by rw [h.ho.D];rfl)]
theorem Fit.two {ms:List Nd} {o:Int} {n:Nat} {x y:List Int} (h:Fit ms o n x y 4) {S:List Nd} (s0:stA S 0=lfS y) (s1:stA S 1=opS 3 o (ms.length:Int) 0):lyF S ms 2=(0,df2 ms o n x y,(ms.length:Int)+1):=by
 have hl:=h.hl
 obtain ⟨a1,a2,a3⟩:=go_leaf (ms:=ms) (by omega) h.hy
 have e1:lyF S ms 1=(0,lf1 ms n y,(ms.length:Int)):=lyF_go (i:=0) (r:=0) rfl (by rw [s0];exact a1) (by rw [s0];exact a2) (by rw [s0];exact a3)
 obtain ⟨b1,b2,b3⟩:=go_sub (ms:=lf1 ms n y) (a:=o) (b:=(ms.length:Int)) (by rw [lf1_len];omega) h.hx h.hy (h.ho.app _) (RwN.last _ _ _ _ _ _ _ rfl)
 exact lyF_go e1 (by rw [s1];exact b1) (by rw [s1];exact b2) (by rw [s1];exact b3.trans (by rw [lf1_len];rfl))
theorem Fit.dfN {ms:List Nd} {o:Int} {n m:Nat} {x y:List Int} (h:Fit ms o n x y m):RwN (df2 ms o n x y) ((ms.length:Int)+1) n (Wd.dif x y):=RwN.last _ _ _ _ _ _ _ (by rw [lf1_len];rfl)
theorem sq_ok {ms:List Nd} {o:Int} {n:Nat} {x y:List Int} (h:Fit ms o n x y 4):lyF (sqS (ms.length:Int) o y) ms 4=(0,sq4 ms o n x y,(ms.length:Int)+3):=by
 have hl:=h.hl
 have e2:=h.two (S:=sqS (ms.length:Int) o y) rfl rfl
 obtain ⟨c1,c2,c3⟩:=go_mul (ms:=df2 ms o n x y) (by rw [df2_len];omega) h.dif h.dif h.dfN h.dfN
 have e3:lyF (sqS (ms.length:Int) o y) ms 3=(0,sq3 ms o n x y,(ms.length:Int)+2):=lyF_go e2 c1 c2 (c3.trans (by rw [df2_len];rfl))
 obtain ⟨d1,d2,d3⟩:=go_mean (b:=0) (ms:=sq3 ms o n x y) (a:=(ms.length:Int)+2) (by rw [sq3_len];omega) h.sq (RwN.last _ _ _ _ _ _ _ (by rw [df2_len];rfl))
 exact lyF_go e3 d1 d2 (d3.trans (by rw [sq3_len];rfl))
theorem sz_ok {ms:List Nd} {o:Int} {n:Nat} {x y:List Int} (h:Fit ms o n x y 4):lyF (szS (ms.length:Int) o y) ms 4=(0,sz4 ms o n x y,(ms.length:Int)+3):=by
 have hl:=h.hl
 have e2:=h.two (S:=szS (ms.length:Int) o y) rfl rfl
 obtain ⟨c1,c2,c3⟩:=go_bend (b:=0) (ms:=df2 ms o n x y) (by rw [df2_len];omega) h.dif h.dfN (k:=4) (by omega)
 have e3:lyF (szS (ms.length:Int) o y) ms 3=(0,sz3 ms o n x y,(ms.length:Int)+2):=lyF_go e2 c1 c2 (c3.trans (by rw [df2_len];rfl))
 obtain ⟨d1,d2,d3⟩:=go_mean (b:=0) (ms:=sz3 ms o n x y) (a:=(ms.length:Int)+2) (by rw [sz3_len];omega) h.sz (RwN.last _ _ _ _ _ _ _ (by rw [df2_len];rfl))
 exact lyF_go e3 d1 d2 (d3.trans (by rw [sz3_len];rfl))
theorem lo_ok {ms NS S:List Nd} {e R:Int} (he:e=0) (hl:ms.length+S.length≤512) (h:lyF S ms S.length=(0,NS,R)):loE e ms S=0∧loR e ms S=R∧loN e ms S=NS:=by
 subst he
 have hE:lyE ms S=0:=(if_pos hl).trans (by rw [h])
 refine ⟨(if_pos rfl).trans hE,(if_pos rfl).trans ((if_pos ⟨hl,by rw [h]⟩).trans (by rw [h])),(if_pos rfl).trans ((if_pos hl).trans (by rw [h]))⟩
theorem Fit.square {ms:List Nd} {o:Int} {n:Nat} {x y:List Int} (h:Fit ms o n x y 4):loE (fitE ms o y) ms (sqS (ms.length:Int) o y)=0∧loR (fitE ms o y) ms (sqS (ms.length:Int) o y)=(ms.length:Int)+3∧loN (fitE ms o y) ms (sqS (ms.length:Int) o y)=sq4 ms o n x y:=lo_ok h.e h.hl (sq_ok h)
theorem Fit.size {ms:List Nd} {o:Int} {n:Nat} {x y:List Int} (h:Fit ms o n x y 4):loE (fitE ms o y) ms (szS (ms.length:Int) o y)=0∧loR (fitE ms o y) ms (szS (ms.length:Int) o y)=(ms.length:Int)+3∧loN (fitE ms o y) ms (szS (ms.length:Int) o y)=sz4 ms o n x y:=lo_ok h.e h.hl (sz_ok h)
theorem Fit.sqN {ms:List Nd} {o:Int} {n m:Nat} {x y:List Int} (h:Fit ms o n x y m):(sq4 ms o n x y)[ms.length+3]?=some ⟨10,(ms.length:Int)+2,-1,0,[],[meanI (sqV x y)]⟩:=by
 unfold sq4
 rw [List.getElem?_append_right (by rw [sq3_len];exact Nat.le_refl _),sq3_len,Nat.sub_self]
 rfl
theorem Fit.szN {ms:List Nd} {o:Int} {n m:Nat} {x y:List Int} (h:Fit ms o n x y m):(sz4 ms o n x y)[ms.length+3]?=some ⟨10,(ms.length:Int)+2,-1,0,[],[meanI (szV x y)]⟩:=by
 unfold sz4
 rw [List.getElem?_append_right (by rw [sz3_len];exact Nat.le_refl _),sz3_len,Nat.sub_self]
 rfl
/-- Hinge. -/
def hgA (n:Nat) (c:Int):List Int:=butV n 0 c (-4294967296)
def hgB (n:Nat) (c:Int):List Int:=butV n 4294967296 c 0
def hgT (n:Nat) (c:Int) (x:List Int):Int:=Fx.hold (totalI (mp2 Fx.mulI x (hgA n c)))
def h5V (n:Nat) (c:Int) (x:List Int):List Int:=x.map fun v=>Fx.hold (v+hgT n c x)
def h6V (n:Nat) (c:Int) (x:List Int):List Int:=mp2 (fun p q=>Fx.hold (p+q)) (h5V n c x) (hgB n c)
def h7V (n:Nat) (c:Int) (x:List Int):List Int:=(h6V n c x).map fun v=>Fx.bendI 1 v
def h8V (n:Nat) (c:Int) (x:List Int):List Int:=mp2 Fx.mulI (h7V n c x) (hgB n c)
def hg2 (ms:List Nd) (n:Nat) (c:Int):List Nd:=ms++[⟨1,-1,-1,0,[(n:Int)],hgA n c⟩]++[⟨1,-1,-1,0,[(n:Int)],hgB n c⟩]
def hg4 (ms:List Nd) (o:Int) (n:Nat) (c:Int) (x:List Int):List Nd:=hg2 ms n c++[⟨4,o,(ms.length:Int),0,[(n:Int)],mp2 Fx.mulI x (hgA n c)⟩]++[⟨9,(ms.length:Int)+2,-1,0,[],[hgT n c x]⟩]
def hg6 (ms:List Nd) (o:Int) (n:Nat) (c:Int) (x:List Int):List Nd:=hg4 ms o n c x++[⟨2,o,(ms.length:Int)+3,0,[(n:Int)],h5V n c x⟩]++[⟨2,(ms.length:Int)+4,(ms.length:Int)+1,0,[(n:Int)],h6V n c x⟩]
def hg8 (ms:List Nd) (o:Int) (n:Nat) (c:Int) (x:List Int):List Nd:=hg6 ms o n c x++[⟨11,(ms.length:Int)+5,-1,1,[(n:Int)],h7V n c x⟩]++[⟨4,(ms.length:Int)+6,(ms.length:Int)+1,0,[(n:Int)],h8V n c x⟩]
def hg9 (ms:List Nd) (o:Int) (n:Nat) (c:Int) (x:List Int):List Nd:=hg8 ms o n c x++[⟨9,(ms.length:Int)+7,-1,0,[],[Fx.hold (totalI (h8V n c x))]⟩]
theorem hg2_len (ms:List Nd) (n:Nat) (c:Int):(hg2 ms n c).length=ms.length+2:=by simp [hg2]
theorem hg4_len (ms:List Nd) (o:Int) (n:Nat) (c:Int) (x:List Int):(hg4 ms o n c x).length=ms.length+4:=by simp [hg4,hg2_len]
theorem hg6_len (ms:List Nd) (o:Int) (n:Nat) (c:Int) (x:List Int):(hg6 ms o n c x).length=ms.length+6:=by simp [hg6,hg4_len]
theorem hg8_len (ms:List Nd) (o:Int) (n:Nat) (c:Int) (x:List Int):(hg8 ms o n c x).length=ms.length+8:=by simp [hg8,hg6_len]
theorem hg9_len (ms:List Nd) (o:Int) (n:Nat) (c:Int) (x:List Int):(hg9 ms o n c x).length=ms.length+9:=by simp [hg9,hg8_len]
theorem but_len (m:Nat) (a c t:Int):(butV m a c t).length=m:=by simp [butV]
theorem hg_ok {ms:List Nd} {o:Int} {n:Nat} {c:Int} {x:List Int} (hx:RwP n x) (ho:RwN ms o n x) (hl:ms.length+9≤512):lyF (hgS (ms.length:Int) o n c) ms 9=(0,hg9 ms o n c x,(ms.length:Int)+8):=by
 have ra:RwP n (hgA n c):=⟨but_len _ _ _ _,hx.h1,hx.h2⟩
 have rb:RwP n (hgB n c):=⟨but_len _ _ _ _,hx.h1,hx.h2⟩
 have r5:RwP n (h5V n c x):=hx.map _
 have r6:RwP n (h6V n c x):=r5.map2 _
 have r7:RwP n (h7V n c x):=r6.map _
 have r8:RwP n (h8V n c x):=r7.map2 _
 obtain ⟨a1,a2,a3⟩:=go_leaf (ms:=ms) (by omega) ra
 have e1:lyF (hgS (ms.length:Int) o n c) ms 1=(0,_,(ms.length:Int)):=lyF_go (i:=0) (r:=0) rfl a1 a2 a3
 obtain ⟨b1,b2,b3⟩:=go_leaf (ms:=ms++[⟨1,-1,-1,0,[(n:Int)],hgA n c⟩]) (by rw [len_app];omega) rb
 have e2:lyF (hgS (ms.length:Int) o n c) ms 2=(0,hg2 ms n c,(ms.length:Int)+1):=lyF_go e1 b1 b2 (b3.trans (by rw [len_app];rfl))
 have nA:RwN (hg2 ms n c) (ms.length:Int) n (hgA n c):=(RwN.last ms _ _ _ _ n _ rfl).app _
 have nB:RwN (hg2 ms n c) ((ms.length:Int)+1) n (hgB n c):=RwN.last _ _ _ _ _ _ _ (by rw [len_app];rfl)
 have n0:RwN (hg2 ms n c) o n x:=(ho.app _).app _
 obtain ⟨c1,c2,c3⟩:=go_mul (ms:=hg2 ms n c) (by rw [hg2_len];omega) hx ra n0 nA
 have e3:lyF (hgS (ms.length:Int) o n c) ms 3=(0,_,(ms.length:Int)+2):=lyF_go e2 c1 c2 (c3.trans (by rw [hg2_len];rfl))
 obtain ⟨d1,d2,d3⟩:=go_all (b:=0) (ms:=hg2 ms n c++[⟨4,o,(ms.length:Int),0,[(n:Int)],mp2 Fx.mulI x (hgA n c)⟩]) (a:=(ms.length:Int)+2) (by rw [len_app,hg2_len];omega) (hx.map2 _) (RwN.last _ _ _ _ _ _ _ (by rw [hg2_len];rfl))
 have e4:lyF (hgS (ms.length:Int) o n c) ms 4=(0,hg4 ms o n c x,(ms.length:Int)+3):=lyF_go e3 d1 d2 (d3.trans (by rw [len_app,hg2_len];rfl))
 have n4:RwN (hg4 ms o n c x) o n x:=(n0.app _).app _
 have nB4:RwN (hg4 ms o n c x) ((ms.length:Int)+1) n (hgB n c):=(nB.app _).app _
 have l3:(hg2 ms n c++[(⟨4,o,(ms.length:Int),0,[(n:Int)],mp2 Fx.mulI x (hgA n c)⟩:Nd)]).length=ms.length+3:=by rw [len_app,hg2_len]
 have q4:ndN (hg4 ms o n c x) ((ms.length:Int)+3)=⟨9,(ms.length:Int)+2,-1,0,[],[hgT n c x]⟩:=by
  have:=nd_last (hg2 ms n c++[⟨4,o,(ms.length:Int),0,[(n:Int)],mp2 Fx.mulI x (hgA n c)⟩]) ⟨9,(ms.length:Int)+2,-1,0,[],[hgT n c x]⟩
  rw [l3] at this
  exact this
 obtain ⟨f1,f2,f3⟩:=go_add0 (ms:=hg4 ms o n c x) (b:=(ms.length:Int)+3) (s:=hgT n c x) (by rw [hg4_len];omega) hx n4 ⟨by omega,by rw [hg4_len];omega⟩ (by rw [q4]) (by rw [q4])
 have e5:lyF (hgS (ms.length:Int) o n c) ms 5=(0,_,(ms.length:Int)+4):=lyF_go e4 f1 f2 (f3.trans (by rw [hg4_len];rfl))
 obtain ⟨g1,g2,g3⟩:=go_add (ms:=hg4 ms o n c x++[⟨2,o,(ms.length:Int)+3,0,[(n:Int)],h5V n c x⟩]) (a:=(ms.length:Int)+4) (b:=(ms.length:Int)+1) (by rw [len_app,hg4_len];omega) r5 rb (RwN.last _ _ _ _ _ _ _ (by rw [hg4_len];rfl)) (nB4.app _)
 have e6:lyF (hgS (ms.length:Int) o n c) ms 6=(0,hg6 ms o n c x,(ms.length:Int)+5):=lyF_go e5 g1 g2 (g3.trans (by rw [len_app,hg4_len];rfl))
 have nB6:RwN (hg6 ms o n c x) ((ms.length:Int)+1) n (hgB n c):=(nB4.app _).app _
 obtain ⟨i1,i2,i3⟩:=go_bend (b:=0) (ms:=hg6 ms o n c x) (a:=(ms.length:Int)+5) (by rw [hg6_len];omega) r6 (RwN.last _ _ _ _ _ _ _ (by rw [len_app,hg4_len];rfl)) (k:=1) (by omega)
 have e7:lyF (hgS (ms.length:Int) o n c) ms 7=(0,_,(ms.length:Int)+6):=lyF_go e6 i1 i2 (i3.trans (by rw [hg6_len];rfl))
 obtain ⟨j1,j2,j3⟩:=go_mul (ms:=hg6 ms o n c x++[⟨11,(ms.length:Int)+5,-1,1,[(n:Int)],h7V n c x⟩]) (a:=(ms.length:Int)+6) (b:=(ms.length:Int)+1) (by rw [len_app,hg6_len];omega) r7 rb (RwN.last _ _ _ _ _ _ _ (by rw [hg6_len];rfl)) (nB6.app _)
 have e8:lyF (hgS (ms.length:Int) o n c) ms 8=(0,hg8 ms o n c x,(ms.length:Int)+7):=lyF_go e7 j1 j2 (j3.trans (by rw [len_app,hg6_len];rfl))
 obtain ⟨k1,k2,k3⟩:=go_all (b:=0) (ms:=hg8 ms o n c x) (a:=(ms.length:Int)+7) (by rw [hg8_len];omega) r8 (RwN.last _ _ _ _ _ _ _ (by rw [len_app,hg6_len];rfl))
 exact lyF_go e8 k1 k2 (k3.trans (by rw [hg8_len];rfl))
theorem plc_ok {ms:List Nd} {o:Int} {n:Nat} {c:Int} {x:List Int} (hx:RwP n x) (ho:RwN ms o n x) (hc:0≤c∧c < (n:Int)):plcE ms o c=0∧plcN ms o c=n:=by
 have e:plcE ms o c=0:=(if_pos ho.r).trans (if_pos ⟨by rw [ho.D];rfl,hc.1,by rw [ho.X,hx.l];exact hc.2⟩)
 refine ⟨e,(if_pos e).trans ?_⟩
 rw [ho.X,hx.l]
theorem hinge_ok {ms:List Nd} {o:Int} {n:Nat} {c:Int} {x:List Int} (hx:RwP n x) (ho:RwN ms o n x) (hl:ms.length+9≤512) (hc:0≤c∧c < (n:Int)):loE (plcE ms o c) ms (hgS (ms.length:Int) o (plcN ms o c) c)=0∧loR (plcE ms o c) ms (hgS (ms.length:Int) o (plcN ms o c) c)=(ms.length:Int)+8∧loN (plcE ms o c) ms (hgS (ms.length:Int) o (plcN ms o c) c)=hg9 ms o n c x:=by
 obtain ⟨e1,e2⟩:=plc_ok hx ho hc
 rw [e2]
 exact lo_ok e1 hl (hg_ok hx ho hl)
theorem hg_last (ms:List Nd) (o:Int) (n:Nat) (c:Int) (x:List Int):(hg9 ms o n c x)[ms.length+8]?=some ⟨9,(ms.length:Int)+7,-1,0,[],[Fx.hold (totalI (h8V n c x))]⟩:=by
 unfold hg9
 rw [List.getElem?_append_right (by rw [hg8_len];exact Nat.le_refl _),hg8_len,Nat.sub_self]
 rfl
theorem NodesG.lyF {ns sts:List Nd} (h:NodesG ns) (hx:∀ i,RI (stA sts i).X):∀ i,NodesG (lyF sts ns i).2.1
 | 0=>h
 | i+1=>by
  show NodesG (if (Wd.lyF sts ns i).1=0 then (lsE (Wd.lyF sts ns i).2.1 (stA sts i),lsN (Wd.lyF sts ns i).2.1 (stA sts i),lsR (Wd.lyF sts ns i).2.1 (stA sts i)) else Wd.lyF sts ns i).2.1
  split
  ·exact (NodesG.lyF h hx i).ls (hx i)
  ·exact NodesG.lyF h hx i
theorem NodesG.lo {ns sts:List Nd} {e:Int} (h:NodesG ns) (hx:∀ i,RI (stA sts i).X):NodesG (loN e ns sts):=by
 unfold loN
 split
 ·unfold lyM
  split
  ·exact NodesG.lyF h hx _
  ·exact h
 ·exact h
theorem sqS_X {N o:Int} {y:List Int} (hy:RI y):∀ i,RI (stA (sqS N o y) i).X
 | 0=>hy
 | 1=>RI_nil
 | 2=>RI_nil
 | 3=>RI_nil
 | _+4=>RI_nil
theorem szS_X {N o:Int} {y:List Int} (hy:RI y):∀ i,RI (stA (szS N o y) i).X
 | 0=>hy
 | 1=>RI_nil
 | 2=>RI_nil
 | 3=>RI_nil
 | _+4=>RI_nil
theorem RI_butV {m:Nat} {a c t:Int} (ha:InR a) (ht:InR t):RI (butV m a c t):=fun y hy=>by
 rcases List.mem_or_eq_of_mem_set hy with h|h
 ·rw [(List.mem_replicate.1 h).2]
  exact ha
 ·rw [h]
  exact ht
theorem hgS_X {N o:Int} {n:Nat} {c:Int}:∀ i,RI (stA (hgS N o n c) i).X
 | 0=>RI_butV (by unfold InR;omega) (by unfold InR;omega)
 | 1=>RI_butV (by unfold InR;omega) (by unfold InR;omega)
 | 2=>RI_nil
 | 3=>RI_nil
 | 4=>RI_nil
 | 5=>RI_nil
 | 6=>RI_nil
 | 7=>RI_nil
 | 8=>RI_nil
 | _+9=>RI_nil
theorem Fit.sqG {ms:List Nd} {o:Int} {n:Nat} {x y:List Int} (h:Fit ms o n x y 4) (hG:NodesG ms) (hy:RI y):NodesG (sq4 ms o n x y):=by
 have:=hG.lo (e:=fitE ms o y) (sqS_X (N:=(ms.length:Int)) (o:=o) hy)
 rwa [h.square.2.2] at this
theorem Fit.szG {ms:List Nd} {o:Int} {n:Nat} {x y:List Int} (h:Fit ms o n x y 4) (hG:NodesG ms) (hy:RI y):NodesG (sz4 ms o n x y):=by
 have:=hG.lo (e:=fitE ms o y) (szS_X (N:=(ms.length:Int)) (o:=o) hy)
 rwa [h.size.2.2] at this
theorem hgG {ms:List Nd} {o:Int} {n:Nat} {c:Int} {x:List Int} (hx:RwP n x) (ho:RwN ms o n x) (hl:ms.length+9≤512) (hc:0≤c∧c < (n:Int)) (hG:NodesG ms):NodesG (hg9 ms o n c x):=by
 have:=hG.lo (e:=plcE ms o c) (hgS_X (N:=(ms.length:Int)) (o:=o) (n:=plcN ms o c) (c:=c))
 rwa [(hinge_ok hx ho hl hc).2.2] at this
/-- A tape of one leaf. -/
def one1 (n:Nat) (x:List Int):List Nd:=[⟨1,-1,-1,0,[(n:Int)],x⟩]
theorem one_ok {n:Nat} {x:List Int} (hx:RwP n x):leafR [] [(n:Int)] x=0∧leafE [] [(n:Int)] x=0∧leafN [] [(n:Int)] x=one1 n x:=by
 obtain ⟨e1,e2,e3⟩:=leaf_ok (ns:=[]) (by decide) hx.isP
 exact ⟨e2,e1,e3⟩
theorem one_n (n:Nat) (x:List Int):RwN (one1 n x) 0 n x:=⟨⟨by omega,by show (0:Int) < 1;omega⟩,rfl,rfl⟩
theorem one_G {n:Nat} {x:List Int} (hx:RwP n x) (rx:RI x):NodesG (one1 n x):=by
 have:=NodesG.leaf (d:=[(n:Int)]) NodesG.nil rx
 rwa [(one_ok hx).2.2] at this
theorem one_fit {n:Nat} {x y:List Int} (hx:RwP n x) (hy:RwP n y):Fit (one1 n x) 0 n x y 4:=⟨hx,hy,one_n n x,by show 1+4≤512;omega⟩
/-- Two tapes that share no block. -/
def Apart (W:World) (tb ub:Nat):Prop:=tb≠ub∧∃ v v',W.heap[tb]?=some (.cells #[v] 63 (0,0))∧W.heap[ub]?=some (.cells #[v'] 63 (0,0))∧v.ownBlock≠some ub∧v'.ownBlock≠some tb∧∀ g,v.ownBlock=some g→v'.ownBlock≠some g
/-- Two tapes of a law's own. -/
structure Two (w W:World) (Bt tb:Nat) (ms:List Nd) (Bu ub:Nat) (us:List Nd):Prop where
 t:TapC W Bt tb ms
 u:TapC W Bu ub us
 a:Apart W tb ub
 b:Below w.heap.size w W
 lt:w.heap.size≤Bt
 lu:w.heap.size≤Bu
/-- A box that holds a tensor of one number. -/
def VBox (W:World) (b:Nat) (A:Int):Prop:=∃ s g c,W.heap[b]?=some (.cells #[s,.slice (some ⟨g,0,none⟩) 1 c] 31 (0,0))∧W.cell? ⟨g,0,none⟩=some (.int .i64 A)
theorem VBox.cells {W:World} {b:Nat} {A:Int} (h:VBox W b A):∃ g c,W.cell? ⟨b,1,none⟩=some (.slice (some ⟨g,0,none⟩) 1 c)∧W.cell? ⟨g,0,none⟩=some (.int .i64 A)∧b < W.heap.size∧g < W.heap.size:=by
 obtain ⟨s,g,c,h1,h2⟩:=h
 exact ⟨g,c,by unfold World.cell?;simp [h1],h2,heap_lt h1,cell_lt h2⟩
end Go.Proofs.YtpdkkcnmgiihcaaGreatDoor.Wd
