/- The code's losses: rows that are made, what is asked first. · The code's losses: Square, Size, Hinge. · What Square, Size and Hinge leave on a tape where out is a row that fits. · Losses on a tape: its nodes stay tensors; two tapes side by side. -/
import Derived.Test.YtpdkkcnmgiihcaaGreatDoorN13
import Derived.Test.YtpdkkcnmgiihcaaGreatDoorN14
import Derived.Test.YtpdkkcnmgiihcaaGreatDoorN03
import Derived.Test.YtpdkkcnmgiihcaaGreatDoorN17
set_option linter.unusedVariables false
set_option linter.unusedSimpArgs false
set_option maxHeartbeats 16000000
set_option maxRecDepth 16000
namespace Go.Proofs.YtpdkkcnmgiihcaaGreatDoor.Wd
open Go.RowKit Fx
theorem crowof_any (p:Option Addr) (n c:Nat) (w:World) (hn:n≤4096):
  Calls Tryz.prog 30 #[.slice p n c] w fun e w'=>∃ g,e = .returned (.agg #[.slice (some ⟨g,0,none⟩) 1 1,.slice p n c])∧OwnK .i64 3 w' w.heap.size (.slice (some ⟨g,0,none⟩) 1 1) [(n:Int)]∧Below w.heap.size w w':=by
 have hn':(n:Int)≤4096:=by omega
 go_enter Tryz.func30,Tryz.ntmps30
 go_wp2
 have hB:Below w.heap.size w ((w.alloc (.cells #[.slice (some ⟨w.heap.size+1,0,none⟩) 1 1,.slice p n c] 31)).alloc (.cells #[.int .i64 (n:Int)] 3)):=by go_grown
 have hO:OwnK .i64 3 ((w.alloc (.cells #[.slice (some ⟨w.heap.size+1,0,none⟩) 1 1,.slice p n c] 31)).alloc (.cells #[.int .i64 (n:Int)] 3)) w.heap.size (.slice (some ⟨w.heap.size+1,0,none⟩) 1 1) [(n:Int)]:=by
  have h0:=own_lit (k:=.i64) (e:=3) (w.alloc (.cells #[.slice (some ⟨w.heap.size+1,0,none⟩) 1 1,.slice p n c] 31)) [(n:Int)] 1 rfl (by decide)
  rw [size_alloc] at h0
  exact h0.low (Nat.le_succ _)
 exact bodyPost_ret (v:=.agg #[.slice (some ⟨w.heap.size+1,0,none⟩) 1 1,.slice p n c]) (by simp [results,Tryz.results30,go_sem]) rfl ⟨_,rfl,hO,hB⟩
theorem cfits_any (B tb:Nat) (ns:List Nd) (hG:NodesG ns) (o:Int) (p:Option Addr) (n c:Nat) (y:List Int) (w:World) (hT:TapC w B tb ns) (h:Nums .i64 w (.slice p n c) y):
  Calls Tryz.prog 28 #[.pointer (some ⟨tb,0,none⟩),.int .i64 o,.slice p n c] w fun e w'=>e = .returned (.int .i64 (fitE ns o y))∧Below w.heap.size w w':=by
 obtain ⟨_,_,_,e4,HX⟩:=h.lst
 cases e4
 have hyn:=HX.out.1
 clear HX h
 by_cases ho:0≤o∧o < (ns.length:Int)
 case neg=>
  have e1:fitE ns o y=1:=if_neg fun h'=>ho h'.1
  rw [e1]
  have cv:=cvno_any B tb ns o (by omega) w hT
  clear e1 ho hyn hT hG
  go_enter Tryz.func28,Tryz.ntmps28
  go_wp2_with fail
  refine cv.mono ?_
  rintro e w1 ⟨rfl,hB1⟩
  have HB1:Hid (Below w.heap.size w w1):=hB1
  clear hB1 cv
  go_wp2
  go_ret
  exact ⟨rfl,bstep HB1.out (up_alloc _ _)⟩
 obtain ⟨i,rfl⟩:∃ i:Nat,o=(i:Int):=⟨o.toNat,by omega⟩
 have hi:ns[i]?=some (ns[i]'(by omega)):=List.getElem?_eq_getElem _
 have cv:=cvalue_any B tb ns hG i _ hi w hT
 have end_:=nd_at hi
 obtain ⟨nd,e5⟩:∃ nd,ns[i]'(by omega)=nd:=⟨_,rfl⟩
 rw [e5] at cv end_
 obtain ⟨E,eE⟩:∃ E,fitE ns (i:Int) y=E:=⟨_,rfl⟩
 have HE:Hid ((if y.length=nd.X.length then if nd.D.length=1 then (0:Int) else 4 else 1)=E):=by
  show _=_
  rw [← eE]
  unfold fitE
  rw [end_]
  by_cases h':y.length=nd.X.length
  ·exact (if_pos h').trans (if_pos (show (0≤(i:Int)∧(i:Int) < (ns.length:Int))∧y.length=nd.X.length from ⟨ho,h'⟩)).symm
  ·exact (if_neg h').trans (if_neg (show ¬ ((0≤(i:Int)∧(i:Int) < (ns.length:Int))∧y.length=nd.X.length) from fun h2=>h' h2.2)).symm
 rw [eE]
 clear eE ho hi end_ e5 hT hG
 obtain ⟨op,a,b,k,D,X⟩:=nd
 simp only [] at cv HE
 go_enter Tryz.func28,Tryz.ntmps28
 go_wp2_with fail
 refine cv.mono ?_
 rintro e w1 ⟨v,rfl,hv,hB1⟩
 obtain ⟨q,m,r,q2,m2,r2,rfl,h1,h2⟩:=hv.own
 obtain ⟨_,_,_,e6,H1⟩:=h1.nums.lst
 cases e6
 obtain ⟨_,_,_,e7,H2⟩:=h2.nums.lst
 cases e7
 have hE:=HE.out
 rw [hyn,H1.out.1,H2.out.1] at hE
 have HB1:Hid (Below w.heap.size w w1):=hB1
 clear hB1 cv h1 h2 H1 H2 hyn HE hv
 by_cases hm:n=m2
 case neg=>
  rw [if_neg hm] at hE
  subst hE
  have hm1:((n:Int) != (m2:Int))=true:=by simp;omega
  clear hm
  go_wp2
  go_ret
  exact ⟨rfl,bstep HB1.out (up_alloc _ _)⟩
 subst hm
 rw [if_pos rfl] at hE
 by_cases hd:m=1
 ·subst hd
  rw [if_pos rfl] at hE
  subst hE
  go_wp2
  go_ret
  exact ⟨rfl,bstep HB1.out (up_alloc _ _)⟩
 ·rw [if_neg hd] at hE
  subst hE
  have hm1:((m:Int) != 1)=true:=by simp;omega
  clear hd
  go_wp2
  go_ret
  exact ⟨rfl,bstep HB1.out (up_alloc _ _)⟩
theorem csquare_any (B tb:Nat) (ns:List Nd) (hG:NodesG ns) (hl:ns.length≤512) (o:Int) (p:Option Addr) (n c:Nat) (y:List Int) (hy:RI y) (w:World) (hT:TapC w B tb ns) (hTz:Hid (∀ W,Below B w W→Tz W)) (h:KeptL B w (.slice p n c) y):
  Calls Tryz.prog 12 #[.pointer (some ⟨tb,0,none⟩),.int .i64 o,.slice p n c] w fun e w'=>e = .returned (.tuple #[.int .i64 (loR (fitE ns o y) ns (sqS (ns.length:Int) o y)),.int .i64 (loE (fitE ns o y) ns (sqS (ns.length:Int) o y))])∧TapC w' B tb (loN (fitE ns o y) ns (sqS (ns.length:Int) o y))∧Below B w w'∧Only SC w w'∧Spar2 tb w w':=by
 haveI:Nonempty World:=⟨w⟩
 have HZ:Hid (B≤w.heap.size):=by
  obtain ⟨hb,v,xs,hv,_⟩:=hT
  exact Nat.le_trans hb (Nat.le_of_lt (heap_lt hv))
 have cf:=cfits_any B tb ns hG o p n c y w hT h.nums
 have HT:Hid (TapC w B tb ns∧NodesG ns∧ns.length≤512):=⟨hT,hG,hl⟩
 by_cases he:fitE ns o y=0
 case neg=>
  rw [show loR (fitE ns o y) ns (sqS (ns.length:Int) o y)=0 from if_neg he,show loE (fitE ns o y) ns (sqS (ns.length:Int) o y)=fitE ns o y from if_neg he,show loN (fitE ns o y) ns (sqS (ns.length:Int) o y)=ns from if_neg he]
  obtain ⟨E,eE⟩:∃ E,fitE ns o y=E:=⟨_,rfl⟩
  rw [eE] at cf he ⊢
  have he':(E != 0)=true:=by simpa using he
  clear eE he h hT hG hTz hy
  go_enter Tryz.func12,Tryz.ntmps12
  go_wp2_with fail
  refine cf.mono ?_
  rintro e w1 ⟨rfl,hB1⟩
  have HF:Hid (TapC w1 B tb ns∧Below B w w1∧Only SC w w1∧Spar2 tb w w1):=⟨HT.out.1.up hB1,hB1.mono HZ.out,Only.of hB1,Spar2.of hB1⟩
  clear hB1 cf
  go_wp2
  go_ret2
  exact ⟨rfl,HF.out⟩
 have hfit:(0≤o∧o < (ns.length:Int))∧y.length=(ndN ns o).X.length:=by
  by_cases h':(0≤o∧o < (ns.length:Int))∧y.length=(ndN ns o).X.length
  ·exact h'
  ·exact absurd ((if_neg h').symm.trans he) (by decide)
 have hyl:y.length≤4096:=by
  have:=(hG.at hfit.1.1 hfit.1.2).1
  rw [hfit.2,this.2]
  exact this.1.2.2
 rw [he] at cf ⊢
 rw [show loR 0 ns (sqS (ns.length:Int) o y)=lyR ns (sqS (ns.length:Int) o y) from rfl,show loE 0 ns (sqS (ns.length:Int) o y)=lyE ns (sqS (ns.length:Int) o y) from rfl,show loN 0 ns (sqS (ns.length:Int) o y)=lyM ns (sqS (ns.length:Int) o y) from rfl]
 obtain ⟨_,_,_,e4,HX⟩:=h.nums.lst
 cases e4
 have hyn:=HX.out.1
 have HY:Hid (RI y∧y.length=n∧KeptL B w (.slice p n c) y):=⟨hy,hyn,h⟩
 obtain ⟨N,eN⟩:∃ N:Int,(ns.length:Int)=N:=⟨_,rfl⟩
 have hN:0≤N∧N≤512:=by omega
 have hO:0≤o∧o < N:=by omega
 have cln:Hid (∀ W,Below w.heap.size w W→Calls Tryz.prog 22 #[.pointer (some ⟨tb,0,none⟩)] W fun e w'=>e = .returned (.int .i64 N)∧w'=W):=fun W hW=>by
  rw [← eN]
  exact clen_any B tb ns W (hT.up hW)
 rw [eN]
 have hn:n≤4096:=by omega
 have HS:Hid (∀ i,i < (sqS N o y).length→StpOk (stA (sqS N o y) i)):=fun i hi=>by
  have h0:InR 0:=by unfold InR;omega
  match i,hi with
  | 0,_=>exact stp_leaf hy hyl
  | 1,_=>exact stp_op (by omega) (by unfold InR;omega) (by unfold InR;omega) h0
  | 2,_=>exact stp_op (by omega) (by unfold InR;omega) (by unfold InR;omega) (by unfold InR;omega)
  | 3,_=>exact stp_op (by omega) (by unfold InR;omega) h0 h0
 have hn':(n:Int)≤4096:=by omega
 obtain ⟨R,eR⟩:∃ R,lyR ns (sqS N o y)=R:=⟨_,rfl⟩
 obtain ⟨E,eE⟩:∃ R,lyE ns (sqS N o y)=R:=⟨_,rfl⟩
 obtain ⟨NS,eNS⟩:∃ R,lyM ns (sqS N o y)=R:=⟨_,rfl⟩
 have HRE:Hid (lyR ns (sqS N o y)=R∧lyE ns (sqS N o y)=E∧lyM ns (sqS N o y)=NS):=⟨eR,eE,eNS⟩
 rw [eR,eE,eNS]
 clear he hfit hyl HX hyn h hy hT hG hl eN eR eE eNS
 go_enter Tryz.func12,Tryz.ntmps12
 go_wp2_with fail
 refine cf.mono ?_
 rintro e w1 ⟨rfl,hB1⟩
 have HB1:Hid (Below w.heap.size w w1):=hB1
 clear hB1 cf
 go_wp2_with fail
 refine (cln.out w1 HB1.out).mono ?_
 rintro e w2 ⟨rfl,rfl⟩
 clear cln
 go_wp2_with fail
 refine (crowof_any p n c w2 hn).mono ?_
 rintro e w3 ⟨g3,rfl,h3,hB3⟩
 have H3:Hid (OwnK .i64 3 w3 w2.heap.size (.slice (some ⟨g3,0,none⟩) 1 1) [(n:Int)]∧Below w.heap.size w w3):=⟨h3,bstep HB1.out hB3⟩
 clear h3 hB3
 go_wp2_with fail
 generalize hK:World.alloc _ _=K
 have hB4:Below w3.heap.size w3 K:=by rw [← hK];exact up_alloc w3 _
 have hL:K.heap[w3.heap.size]?=some (.cells [.int .i64 1,.int .i64 0,.int .i64 0,.int .i64 0,.slice (some ⟨g3,0,none⟩) 1 1,.slice p n c,.int .i64 3,.int .i64 o,.int .i64 N,.int .i64 0,.slice none 0 0,.slice none 0 0,.int .i64 4,.int .i64 (N+1),.int .i64 (N+1),.int .i64 0,.slice none 0 0,.slice none 0 0,.int .i64 10,.int .i64 (N+2),.int .i64 0,.int .i64 0,.slice none 0 0,.slice none 0 0].toArray 71 (0,0)):=by rw [← hK];exact heap_alloc_new _ _
 have hb:Below w.heap.size w K:=bstep H3.out.2 hB4
 have hBK:Below B w K:=hb.mono HZ.out
 have cl:=clay_any B tb ns HT.out.2.1 (sqS N o y) HS.out HT.out.2.2 w3.heap.size 4 _ rfl (by omega) K (HT.out.1.up hb) (show Hid _ from fun W hW=>hTz.out W (hBK.trans hW)) hL (fun i hi=>by
  match i,hi with
  | 0,_=>exact ⟨_,_,_,_,_,_,rfl,rfl,rfl,rfl,rfl,rfl,by show KeptL _ _ _ [(y.length:Int)];rw [HY.out.2.1];exact (H3.out.1.up hB4).keptL (by decide),HY.out.2.2.up hBK (Only.of hb)⟩
  | 1,_=>exact ⟨_,_,_,_,_,_,rfl,rfl,rfl,rfl,rfl,rfl,KeptL.nil _ _,KeptL.nil _ _⟩
  | 2,_=>exact ⟨_,_,_,_,_,_,rfl,rfl,rfl,rfl,rfl,rfl,KeptL.nil _ _,KeptL.nil _ _⟩
  | 3,_=>exact ⟨_,_,_,_,_,_,rfl,rfl,rfl,rfl,rfl,rfl,KeptL.nil _ _,KeptL.nil _ _⟩)
 have HK:Hid (Below w.heap.size w K):=hb
 rw [HRE.out.1,HRE.out.2.1,HRE.out.2.2] at cl
 clear hK hB4 hL hb hBK HS HRE
 refine cl.mono ?_
 rintro e w5 ⟨rfl,hT5,hB5,hO5,hS5⟩
 have HF:Hid (TapC w5 B tb NS∧Below B w w5∧Only SC w w5∧Spar2 tb w w5):=⟨hT5,(HK.out.mono HZ.out).trans hB5,(Only.of HK.out).trans hO5,Spar2.trans (Spar2.of HK.out) hS5 HK.out.size⟩
 clear hT5 hB5 hO5 hS5 cl
 go_wp2
 go_ret2
 exact ⟨rfl,HF.out⟩
theorem csize_any (B tb:Nat) (ns:List Nd) (hG:NodesG ns) (hl:ns.length≤512) (o:Int) (p:Option Addr) (n c:Nat) (y:List Int) (hy:RI y) (w:World) (hT:TapC w B tb ns) (hTz:Hid (∀ W,Below B w W→Tz W)) (h:KeptL B w (.slice p n c) y):
  Calls Tryz.prog 13 #[.pointer (some ⟨tb,0,none⟩),.int .i64 o,.slice p n c] w fun e w'=>e = .returned (.tuple #[.int .i64 (loR (fitE ns o y) ns (szS (ns.length:Int) o y)),.int .i64 (loE (fitE ns o y) ns (szS (ns.length:Int) o y))])∧TapC w' B tb (loN (fitE ns o y) ns (szS (ns.length:Int) o y))∧Below B w w'∧Only SC w w'∧Spar2 tb w w':=by
 haveI:Nonempty World:=⟨w⟩
 have HZ:Hid (B≤w.heap.size):=by
  obtain ⟨hb,v,xs,hv,_⟩:=hT
  exact Nat.le_trans hb (Nat.le_of_lt (heap_lt hv))
 have cf:=cfits_any B tb ns hG o p n c y w hT h.nums
 have HT:Hid (TapC w B tb ns∧NodesG ns∧ns.length≤512):=⟨hT,hG,hl⟩
 by_cases he:fitE ns o y=0
 case neg=>
  rw [show loR (fitE ns o y) ns (szS (ns.length:Int) o y)=0 from if_neg he,show loE (fitE ns o y) ns (szS (ns.length:Int) o y)=fitE ns o y from if_neg he,show loN (fitE ns o y) ns (szS (ns.length:Int) o y)=ns from if_neg he]
  obtain ⟨E,eE⟩:∃ E,fitE ns o y=E:=⟨_,rfl⟩
  rw [eE] at cf he ⊢
  have he':(E != 0)=true:=by simpa using he
  clear eE he h hT hG hTz hy
  go_enter Tryz.func13,Tryz.ntmps13
  go_wp2_with fail
  refine cf.mono ?_
  rintro e w1 ⟨rfl,hB1⟩
  have HF:Hid (TapC w1 B tb ns∧Below B w w1∧Only SC w w1∧Spar2 tb w w1):=⟨HT.out.1.up hB1,hB1.mono HZ.out,Only.of hB1,Spar2.of hB1⟩
  clear hB1 cf
  go_wp2
  go_ret2
  exact ⟨rfl,HF.out⟩
 have hfit:(0≤o∧o < (ns.length:Int))∧y.length=(ndN ns o).X.length:=by
  by_cases h':(0≤o∧o < (ns.length:Int))∧y.length=(ndN ns o).X.length
  ·exact h'
  ·exact absurd ((if_neg h').symm.trans he) (by decide)
 have hyl:y.length≤4096:=by
  have:=(hG.at hfit.1.1 hfit.1.2).1
  rw [hfit.2,this.2]
  exact this.1.2.2
 rw [he] at cf ⊢
 rw [show loR 0 ns (szS (ns.length:Int) o y)=lyR ns (szS (ns.length:Int) o y) from rfl,show loE 0 ns (szS (ns.length:Int) o y)=lyE ns (szS (ns.length:Int) o y) from rfl,show loN 0 ns (szS (ns.length:Int) o y)=lyM ns (szS (ns.length:Int) o y) from rfl]
 obtain ⟨_,_,_,e4,HX⟩:=h.nums.lst
 cases e4
 have hyn:=HX.out.1
 have HY:Hid (RI y∧y.length=n∧KeptL B w (.slice p n c) y):=⟨hy,hyn,h⟩
 obtain ⟨N,eN⟩:∃ N:Int,(ns.length:Int)=N:=⟨_,rfl⟩
 have hN:0≤N∧N≤512:=by omega
 have hO:0≤o∧o < N:=by omega
 have cln:Hid (∀ W,Below w.heap.size w W→Calls Tryz.prog 22 #[.pointer (some ⟨tb,0,none⟩)] W fun e w'=>e = .returned (.int .i64 N)∧w'=W):=fun W hW=>by
  rw [← eN]
  exact clen_any B tb ns W (hT.up hW)
 rw [eN]
 have hn:n≤4096:=by omega
 have HS:Hid (∀ i,i < (szS N o y).length→StpOk (stA (szS N o y) i)):=fun i hi=>by
  have h0:InR 0:=by unfold InR;omega
  match i,hi with
  | 0,_=>exact stp_leaf hy hyl
  | 1,_=>exact stp_op (by omega) (by unfold InR;omega) (by unfold InR;omega) h0
  | 2,_=>exact stp_op (by omega) (by unfold InR;omega) (by unfold InR;omega) (by unfold InR;omega)
  | 3,_=>exact stp_op (by omega) (by unfold InR;omega) h0 h0
 have hn':(n:Int)≤4096:=by omega
 obtain ⟨R,eR⟩:∃ R,lyR ns (szS N o y)=R:=⟨_,rfl⟩
 obtain ⟨E,eE⟩:∃ R,lyE ns (szS N o y)=R:=⟨_,rfl⟩
 obtain ⟨NS,eNS⟩:∃ R,lyM ns (szS N o y)=R:=⟨_,rfl⟩
 have HRE:Hid (lyR ns (szS N o y)=R∧lyE ns (szS N o y)=E∧lyM ns (szS N o y)=NS):=⟨eR,eE,eNS⟩
 rw [eR,eE,eNS]
 clear he hfit hyl HX hyn h hy hT hG hl eN eR eE eNS
 go_enter Tryz.func13,Tryz.ntmps13
 go_wp2_with fail
 refine cf.mono ?_
 rintro e w1 ⟨rfl,hB1⟩
 have HB1:Hid (Below w.heap.size w w1):=hB1
 clear hB1 cf
 go_wp2_with fail
 refine (cln.out w1 HB1.out).mono ?_
 rintro e w2 ⟨rfl,rfl⟩
 clear cln
 go_wp2_with fail
 refine (crowof_any p n c w2 hn).mono ?_
 rintro e w3 ⟨g3,rfl,h3,hB3⟩
 have H3:Hid (OwnK .i64 3 w3 w2.heap.size (.slice (some ⟨g3,0,none⟩) 1 1) [(n:Int)]∧Below w.heap.size w w3):=⟨h3,bstep HB1.out hB3⟩
 clear h3 hB3
 go_wp2_with fail
 generalize hK:World.alloc _ _=K
 have hB4:Below w3.heap.size w3 K:=by rw [← hK];exact up_alloc w3 _
 have hL:K.heap[w3.heap.size]?=some (.cells [.int .i64 1,.int .i64 0,.int .i64 0,.int .i64 0,.slice (some ⟨g3,0,none⟩) 1 1,.slice p n c,.int .i64 3,.int .i64 o,.int .i64 N,.int .i64 0,.slice none 0 0,.slice none 0 0,.int .i64 11,.int .i64 (N+1),.int .i64 0,.int .i64 4,.slice none 0 0,.slice none 0 0,.int .i64 10,.int .i64 (N+2),.int .i64 0,.int .i64 0,.slice none 0 0,.slice none 0 0].toArray 71 (0,0)):=by rw [← hK];exact heap_alloc_new _ _
 have hb:Below w.heap.size w K:=bstep H3.out.2 hB4
 have hBK:Below B w K:=hb.mono HZ.out
 have cl:=clay_any B tb ns HT.out.2.1 (szS N o y) HS.out HT.out.2.2 w3.heap.size 4 _ rfl (by omega) K (HT.out.1.up hb) (show Hid _ from fun W hW=>hTz.out W (hBK.trans hW)) hL (fun i hi=>by
  match i,hi with
  | 0,_=>exact ⟨_,_,_,_,_,_,rfl,rfl,rfl,rfl,rfl,rfl,by show KeptL _ _ _ [(y.length:Int)];rw [HY.out.2.1];exact (H3.out.1.up hB4).keptL (by decide),HY.out.2.2.up hBK (Only.of hb)⟩
  | 1,_=>exact ⟨_,_,_,_,_,_,rfl,rfl,rfl,rfl,rfl,rfl,KeptL.nil _ _,KeptL.nil _ _⟩
  | 2,_=>exact ⟨_,_,_,_,_,_,rfl,rfl,rfl,rfl,rfl,rfl,KeptL.nil _ _,KeptL.nil _ _⟩
  | 3,_=>exact ⟨_,_,_,_,_,_,rfl,rfl,rfl,rfl,rfl,rfl,KeptL.nil _ _,KeptL.nil _ _⟩)
 have HK:Hid (Below w.heap.size w K):=hb
 rw [HRE.out.1,HRE.out.2.1,HRE.out.2.2] at cl
 clear hK hB4 hL hb hBK HS HRE
 refine cl.mono ?_
 rintro e w5 ⟨rfl,hT5,hB5,hO5,hS5⟩
 have HF:Hid (TapC w5 B tb NS∧Below B w w5∧Only SC w w5∧Spar2 tb w w5):=⟨hT5,(HK.out.mono HZ.out).trans hB5,(Only.of HK.out).trans hO5,Spar2.trans (Spar2.of HK.out) hS5 HK.out.size⟩
 clear hT5 hB5 hO5 hS5 cl
 go_wp2
 go_ret2
 exact ⟨rfl,HF.out⟩
def dif (x y:List Int):List Int:=mp2 (fun p q=>Fx.hold (p - q)) x y
def sqV (x y:List Int):List Int:=mp2 Fx.mulI (dif x y) (dif x y)
def szV (x y:List Int):List Int:=(dif x y).map fun v=>Fx.bendI 4 v
def lf1 (ms:List Nd) (n:Nat) (y:List Int):List Nd:=ms++[⟨1,-1,-1,0,[(n:Int)],y⟩]
def df2 (ms:List Nd) (o:Int) (n:Nat) (x y:List Int):List Nd:=lf1 ms n y++[⟨3,o,(ms.length:Int),0,[(n:Int)],dif x y⟩]
def sq3 (ms:List Nd) (o:Int) (n:Nat) (x y:List Int):List Nd:=df2 ms o n x y++[⟨4,(ms.length:Int)+1,(ms.length:Int)+1,0,[(n:Int)],sqV x y⟩]
def sq4 (ms:List Nd) (o:Int) (n:Nat) (x y:List Int):List Nd:=sq3 ms o n x y++[⟨10,(ms.length:Int)+2,-1,0,[],[meanI (sqV x y)]⟩]
def sz3 (ms:List Nd) (o:Int) (n:Nat) (x y:List Int):List Nd:=df2 ms o n x y++[⟨11,(ms.length:Int)+1,-1,4,[(n:Int)],szV x y⟩]
def sz4 (ms:List Nd) (o:Int) (n:Nat) (x y:List Int):List Nd:=sz3 ms o n x y++[⟨10,(ms.length:Int)+2,-1,0,[],[meanI (szV x y)]⟩]
theorem lf1_len (ms:List Nd) (n:Nat) (y:List Int):(lf1 ms n y).length=ms.length+1:=len_app _ _
theorem df2_len (ms:List Nd) (o:Int) (n:Nat) (x y:List Int):(df2 ms o n x y).length=ms.length+2:=(len_app _ _).trans (by rw [lf1_len])
theorem sq3_len (ms:List Nd) (o:Int) (n:Nat) (x y:List Int):(sq3 ms o n x y).length=ms.length+3:=(len_app _ _).trans (by rw [df2_len])
theorem sz3_len (ms:List Nd) (o:Int) (n:Nat) (x y:List Int):(sz3 ms o n x y).length=ms.length+3:=(len_app _ _).trans (by rw [df2_len])
/-- A row of a tape, and one that is held against it. -/
structure Fit (ms:List Nd) (o:Int) (n:Nat) (x y:List Int) (m:Nat):Prop where
 hx:RwP n x
 hy:RwP n y
 ho:RwN ms o n x
 hl:ms.length+m≤512
theorem Fit.dif {ms:List Nd} {o:Int} {n m:Nat} {x y:List Int} (h:Fit ms o n x y m):RwP n (dif x y):=h.hx.map2 _
theorem Fit.sq {ms:List Nd} {o:Int} {n m:Nat} {x y:List Int} (h:Fit ms o n x y m):RwP n (sqV x y):=h.dif.map2 _
theorem Fit.sz {ms:List Nd} {o:Int} {n m:Nat} {x y:List Int} (h:Fit ms o n x y m):RwP n (szV x y):=h.dif.map _
theorem Fit.e {ms:List Nd} {o:Int} {n m:Nat} {x y:List Int} (h:Fit ms o n x y m):fitE ms o y=0:=by
 unfold fitE
 rw [if_pos ⟨h.ho.r,by rw [h.ho.X,h.hx.l,h.hy.l]⟩,if_pos (by rw [h.ho.D];rfl)]
theorem Fit.two {ms:List Nd} {o:Int} {n:Nat} {x y:List Int} (h:Fit ms o n x y 4) {S:List Nd} (s0:stA S 0=lfS y) (s1:stA S 1=opS 3 o (ms.length:Int) 0):lyF S ms 2=(0,df2 ms o n x y,(ms.length:Int)+1):=by
 have hl:=h.hl
 obtain ⟨a1,a2,a3⟩:=go_leaf (ms:=ms) (by omega) h.hy
 have e1:lyF S ms 1=(0,lf1 ms n y,(ms.length:Int)):=lyF_go (i:=0) (r:=0) rfl (by rw [s0];exact a1) (by rw [s0];exact a2) (by rw [s0];exact a3)
 obtain ⟨b1,b2,b3⟩:=go_sub (ms:=lf1 ms n y) (a:=o) (b:=(ms.length:Int)) (by rw [lf1_len];omega) h.hx h.hy (h.ho.app _) (RwN.last _ _ _ _ _ _ _ rfl)
 exact lyF_go e1 (by rw [s1];exact b1) (by rw [s1];exact b2) (by rw [s1];exact b3.trans (by rw [lf1_len];rfl))
theorem Fit.dfN {ms:List Nd} {o:Int} {n m:Nat} {x y:List Int} (h:Fit ms o n x y m):RwN (df2 ms o n x y) ((ms.length:Int)+1) n (Wd.dif x y):=RwN.last _ _ _ _ _ _ _ (by rw [lf1_len];rfl)
theorem sq_ok {ms:List Nd} {o:Int} {n:Nat} {x y:List Int} (h:Fit ms o n x y 4):lyF (sqS (ms.length:Int) o y) ms 4=(0,sq4 ms o n x y,(ms.length:Int)+3):=by
 have hl:=h.hl
 have e2:=h.two (S:=sqS (ms.length:Int) o y) rfl rfl
 obtain ⟨c1,c2,c3⟩:=go_mul (ms:=df2 ms o n x y) (by rw [df2_len];omega) h.dif h.dif h.dfN h.dfN
 have e3:lyF (sqS (ms.length:Int) o y) ms 3=(0,sq3 ms o n x y,(ms.length:Int)+2):=lyF_go e2 c1 c2 (c3.trans (by rw [df2_len];rfl))
 obtain ⟨d1,d2,d3⟩:=go_mean (b:=0) (ms:=sq3 ms o n x y) (a:=(ms.length:Int)+2) (by rw [sq3_len];omega) h.sq (RwN.last _ _ _ _ _ _ _ (by rw [df2_len];rfl))
 exact lyF_go e3 d1 d2 (d3.trans (by rw [sq3_len];rfl))
theorem sz_ok {ms:List Nd} {o:Int} {n:Nat} {x y:List Int} (h:Fit ms o n x y 4):lyF (szS (ms.length:Int) o y) ms 4=(0,sz4 ms o n x y,(ms.length:Int)+3):=by
 have hl:=h.hl
 have e2:=h.two (S:=szS (ms.length:Int) o y) rfl rfl
 obtain ⟨c1,c2,c3⟩:=go_bend (b:=0) (ms:=df2 ms o n x y) (by rw [df2_len];omega) h.dif h.dfN (k:=4) (by omega)
 have e3:lyF (szS (ms.length:Int) o y) ms 3=(0,sz3 ms o n x y,(ms.length:Int)+2):=lyF_go e2 c1 c2 (c3.trans (by rw [df2_len];rfl))
 obtain ⟨d1,d2,d3⟩:=go_mean (b:=0) (ms:=sz3 ms o n x y) (a:=(ms.length:Int)+2) (by rw [sz3_len];omega) h.sz (RwN.last _ _ _ _ _ _ _ (by rw [df2_len];rfl))
 exact lyF_go e3 d1 d2 (d3.trans (by rw [sz3_len];rfl))
theorem lo_ok {ms NS S:List Nd} {e R:Int} (he:e=0) (hl:ms.length+S.length≤512) (h:lyF S ms S.length=(0,NS,R)):loE e ms S=0∧loR e ms S=R∧loN e ms S=NS:=by
 subst he
 have hE:lyE ms S=0:=(if_pos hl).trans (by rw [h])
 refine ⟨(if_pos rfl).trans hE,(if_pos rfl).trans ((if_pos ⟨hl,by rw [h]⟩).trans (by rw [h])),(if_pos rfl).trans ((if_pos hl).trans (by rw [h]))⟩
theorem Fit.square {ms:List Nd} {o:Int} {n:Nat} {x y:List Int} (h:Fit ms o n x y 4):loE (fitE ms o y) ms (sqS (ms.length:Int) o y)=0∧loR (fitE ms o y) ms (sqS (ms.length:Int) o y)=(ms.length:Int)+3∧loN (fitE ms o y) ms (sqS (ms.length:Int) o y)=sq4 ms o n x y:=lo_ok h.e h.hl (sq_ok h)
theorem Fit.size {ms:List Nd} {o:Int} {n:Nat} {x y:List Int} (h:Fit ms o n x y 4):loE (fitE ms o y) ms (szS (ms.length:Int) o y)=0∧loR (fitE ms o y) ms (szS (ms.length:Int) o y)=(ms.length:Int)+3∧loN (fitE ms o y) ms (szS (ms.length:Int) o y)=sz4 ms o n x y:=lo_ok h.e h.hl (sz_ok h)
theorem Fit.sqN {ms:List Nd} {o:Int} {n m:Nat} {x y:List Int} (h:Fit ms o n x y m):(sq4 ms o n x y)[ms.length+3]?=some ⟨10,(ms.length:Int)+2,-1,0,[],[meanI (sqV x y)]⟩:=by
 unfold sq4
 rw [List.getElem?_append_right (by rw [sq3_len];exact Nat.le_refl _),sq3_len,Nat.sub_self]
 rfl
theorem RwN.sq {ms:List Nd} {o:Int} {n:Nat} {x:List Int} (h:RwN ms o n x) (o':Int) (n':Nat) (x' y:List Int):RwN (sq4 ms o' n' x' y) o n x:=(((h.app _).app _).app _).app _
/-- Hinge. -/
def hgA (n:Nat) (c:Int):List Int:=butV n 0 c (-4294967296)
def hgB (n:Nat) (c:Int):List Int:=butV n 4294967296 c 0
def hgT (n:Nat) (c:Int) (x:List Int):Int:=Fx.hold (totalI (mp2 Fx.mulI x (hgA n c)))
def h5V (n:Nat) (c:Int) (x:List Int):List Int:=x.map fun v=>Fx.hold (v+hgT n c x)
def h6V (n:Nat) (c:Int) (x:List Int):List Int:=mp2 (fun p q=>Fx.hold (p+q)) (h5V n c x) (hgB n c)
def h7V (n:Nat) (c:Int) (x:List Int):List Int:=(h6V n c x).map fun v=>Fx.bendI 1 v
def h8V (n:Nat) (c:Int) (x:List Int):List Int:=mp2 Fx.mulI (h7V n c x) (hgB n c)
def hg2 (ms:List Nd) (n:Nat) (c:Int):List Nd:=ms++[⟨1,-1,-1,0,[(n:Int)],hgA n c⟩]++[⟨1,-1,-1,0,[(n:Int)],hgB n c⟩]
def hg4 (ms:List Nd) (o:Int) (n:Nat) (c:Int) (x:List Int):List Nd:=hg2 ms n c++[⟨4,o,(ms.length:Int),0,[(n:Int)],mp2 Fx.mulI x (hgA n c)⟩]++[⟨9,(ms.length:Int)+2,-1,0,[],[hgT n c x]⟩]
def hg6 (ms:List Nd) (o:Int) (n:Nat) (c:Int) (x:List Int):List Nd:=hg4 ms o n c x++[⟨2,o,(ms.length:Int)+3,0,[(n:Int)],h5V n c x⟩]++[⟨2,(ms.length:Int)+4,(ms.length:Int)+1,0,[(n:Int)],h6V n c x⟩]
def hg8 (ms:List Nd) (o:Int) (n:Nat) (c:Int) (x:List Int):List Nd:=hg6 ms o n c x++[⟨11,(ms.length:Int)+5,-1,1,[(n:Int)],h7V n c x⟩]++[⟨4,(ms.length:Int)+6,(ms.length:Int)+1,0,[(n:Int)],h8V n c x⟩]
theorem NodesG.lyF {ns sts:List Nd} (h:NodesG ns) (hx:∀ i,RI (stA sts i).X):∀ i,NodesG (lyF sts ns i).2.1
 | 0=>h
 | i+1=>by
  show NodesG (if (Wd.lyF sts ns i).1=0 then (lsE (Wd.lyF sts ns i).2.1 (stA sts i),lsN (Wd.lyF sts ns i).2.1 (stA sts i),lsR (Wd.lyF sts ns i).2.1 (stA sts i)) else Wd.lyF sts ns i).2.1
  split
  ·exact (NodesG.lyF h hx i).ls (hx i)
  ·exact NodesG.lyF h hx i
theorem NodesG.lo {ns sts:List Nd} {e:Int} (h:NodesG ns) (hx:∀ i,RI (stA sts i).X):NodesG (loN e ns sts):=by
 unfold loN
 split
 ·unfold lyM
  split
  ·exact NodesG.lyF h hx _
  ·exact h
 ·exact h
theorem sqS_X {N o:Int} {y:List Int} (hy:RI y):∀ i,RI (stA (sqS N o y) i).X
 | 0=>hy
 | 1=>RI_nil
 | 2=>RI_nil
 | 3=>RI_nil
 | _+4=>RI_nil
theorem szS_X {N o:Int} {y:List Int} (hy:RI y):∀ i,RI (stA (szS N o y) i).X
 | 0=>hy
 | 1=>RI_nil
 | 2=>RI_nil
 | 3=>RI_nil
 | _+4=>RI_nil
theorem Fit.sqG {ms:List Nd} {o:Int} {n:Nat} {x y:List Int} (h:Fit ms o n x y 4) (hG:NodesG ms) (hy:RI y):NodesG (sq4 ms o n x y):=by
 have:=hG.lo (e:=fitE ms o y) (sqS_X (N:=(ms.length:Int)) (o:=o) hy)
 rwa [h.square.2.2] at this
theorem Fit.szG {ms:List Nd} {o:Int} {n:Nat} {x y:List Int} (h:Fit ms o n x y 4) (hG:NodesG ms) (hy:RI y):NodesG (sz4 ms o n x y):=by
 have:=hG.lo (e:=fitE ms o y) (szS_X (N:=(ms.length:Int)) (o:=o) hy)
 rwa [h.size.2.2] at this
/-- A tape of one leaf. -/
def one1 (n:Nat) (x:List Int):List Nd:=[⟨1,-1,-1,0,[(n:Int)],x⟩]
theorem one_ok {n:Nat} {x:List Int} (hx:RwP n x):leafR [] [(n:Int)] x=0∧leafE [] [(n:Int)] x=0∧leafN [] [(n:Int)] x=one1 n x:=by
 obtain ⟨e1,e2,e3⟩:=leaf_ok (ns:=[]) (by decide) hx.isP
 exact ⟨e2,e1,e3⟩
theorem one_n (n:Nat) (x:List Int):RwN (one1 n x) 0 n x:=⟨⟨by omega,by show (0:Int) < 1;omega⟩,rfl,rfl⟩
theorem one_G {n:Nat} {x:List Int} (hx:RwP n x) (rx:RI x):NodesG (one1 n x):=by
 have:=NodesG.leaf (d:=[(n:Int)]) NodesG.nil rx
 rwa [(one_ok hx).2.2] at this
theorem one_fit {n:Nat} {x y:List Int} (hx:RwP n x) (hy:RwP n y):Fit (one1 n x) 0 n x y 4:=⟨hx,hy,one_n n x,by show 1+4≤512;omega⟩
/-- Two tapes that share no block. -/
def Apart (W:World) (tb ub:Nat):Prop:=tb≠ub∧∃ v v',W.heap[tb]?=some (.cells #[v] 63 (0,0))∧W.heap[ub]?=some (.cells #[v'] 63 (0,0))∧v.ownBlock≠some ub∧v'.ownBlock≠some tb∧∀ g,v.ownBlock=some g→v'.ownBlock≠some g
/-- Two tapes of a law's own. -/
structure Two (w W:World) (Bt tb:Nat) (ms:List Nd) (Bu ub:Nat) (us:List Nd):Prop where
 t:TapC W Bt tb ms
 u:TapC W Bu ub us
 a:Apart W tb ub
 b:Below w.heap.size w W
 lt:w.heap.size≤Bt
 lu:w.heap.size≤Bu
/-- A box that holds a tensor of one number. -/
def VBox (W:World) (b:Nat) (A:Int):Prop:=∃ s g c,W.heap[b]?=some (.cells #[s,.slice (some ⟨g,0,none⟩) 1 c] 31 (0,0))∧W.cell? ⟨g,0,none⟩=some (.int .i64 A)
theorem VBox.up {W W':World} {b:Nat} {A:Int} (h:VBox W b A) (hB:Below W.heap.size W W'):VBox W' b A:=by
 obtain ⟨s,g,c,h1,h2⟩:=h
 exact ⟨s,g,c,(hB.block _ (heap_lt h1)).trans h1,cell_low h2 hB⟩
theorem VBox.cells {W:World} {b:Nat} {A:Int} (h:VBox W b A):∃ g c,W.cell? ⟨b,1,none⟩=some (.slice (some ⟨g,0,none⟩) 1 c)∧W.cell? ⟨g,0,none⟩=some (.int .i64 A)∧b < W.heap.size∧g < W.heap.size:=by
 obtain ⟨s,g,c,h1,h2⟩:=h
 exact ⟨g,c,by unfold World.cell?;simp [h1],h2,heap_lt h1,cell_lt h2⟩
theorem VBox.new {W:World} {B g c:Nat} {s:Value} {A:Int} (h:OwnK .i64 33 W B (.slice (some ⟨g,0,none⟩) 1 c) [A]):VBox (W.alloc (.cells #[s,.slice (some ⟨g,0,none⟩) 1 c] 31)) W.heap.size A:=
 ⟨s,g,c,heap_alloc_new _ _,cell_low (h.cell rfl 0 (by decide)).1 (up_alloc _ _)⟩
end Go.Proofs.YtpdkkcnmgiihcaaGreatDoor.Wd
