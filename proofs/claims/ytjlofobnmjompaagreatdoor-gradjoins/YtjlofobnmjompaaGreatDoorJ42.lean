/- The code's losses: Square, Size, Hinge. · The code's One. · Tensors of one shape: a fold to it, a sum with noughts, a product with ones leave them as they are. · The code's sweep: its object, add. -/
import Derived.Test.YtjlofobnmjompaaGreatDoorJ40
import Derived.Test.YtjlofobnmjompaaGreatDoorJ41
import Derived.Test.YtjlofobnmjompaaGreatDoorJ25
import Derived.Test.YtjlofobnmjompaaGreatDoorJ20
set_option linter.unusedVariables false
set_option linter.unusedSimpArgs false
set_option maxHeartbeats 16000000
set_option maxRecDepth 16000
namespace Go.Proofs.YtjlofobnmjompaaGreatDoor.Wd
open Go.RowKit Fx
theorem csquare_any (B tb:Nat) (ns:List Nd) (hG:NodesG ns) (hl:ns.length≤512) (o:Int) (p:Option Addr) (n c:Nat) (y:List Int) (hy:RI y) (w:World) (hT:TapC w B tb ns) (hTz:Hid (∀ W,Below B w W→Tz W)) (h:KeptL B w (.slice p n c) y):
  Calls Tryz.prog 42 #[.pointer (some ⟨tb,0,none⟩),.int .i64 o,.slice p n c] w fun e w'=>e = .returned (.tuple #[.int .i64 (loR (fitE ns o y) ns (sqS (ns.length:Int) o y)),.int .i64 (loE (fitE ns o y) ns (sqS (ns.length:Int) o y))])∧TapC w' B tb (loN (fitE ns o y) ns (sqS (ns.length:Int) o y))∧Below B w w'∧Only SC w w'∧Spar2 tb w w':=by
 haveI:Nonempty World:=⟨w⟩
 have HZ:Hid (B≤w.heap.size):=by
  obtain ⟨hb,v,xs,hv,_⟩:=hT
  exact Nat.le_trans hb (Nat.le_of_lt (heap_lt hv))
 have cf:=cfits_any B tb ns hG o p n c y w hT h.nums
 have HT:Hid (TapC w B tb ns∧NodesG ns∧ns.length≤512):=⟨hT,hG,hl⟩
 by_cases he:fitE ns o y=0
 case neg=>
  rw [show loR (fitE ns o y) ns (sqS (ns.length:Int) o y)=0 from if_neg he,show loE (fitE ns o y) ns (sqS (ns.length:Int) o y)=fitE ns o y from if_neg he,show loN (fitE ns o y) ns (sqS (ns.length:Int) o y)=ns from if_neg he]
  obtain ⟨E,eE⟩:∃ E,fitE ns o y=E:=⟨_,rfl⟩
  rw [eE] at cf he ⊢
  have he':(E != 0)=true:=by simpa using he
  clear eE he h hT hG hTz hy
  go_enter Tryz.func42,Tryz.ntmps42
  go_wp2_with fail
  refine cf.mono ?_
  rintro e w1 ⟨rfl,hB1⟩
  have HF:Hid (TapC w1 B tb ns∧Below B w w1∧Only SC w w1∧Spar2 tb w w1):=⟨HT.out.1.up hB1,hB1.mono HZ.out,Only.of hB1,Spar2.of hB1⟩
  clear hB1 cf
  go_wp2
  go_ret2
  exact ⟨rfl,HF.out⟩
 have hfit:(0≤o∧o < (ns.length:Int))∧y.length=(ndN ns o).X.length:=by
  by_cases h':(0≤o∧o < (ns.length:Int))∧y.length=(ndN ns o).X.length
  ·exact h'
  ·exact absurd ((if_neg h').symm.trans he) (by decide)
 have hyl:y.length≤4096:=by
  have:=(hG.at hfit.1.1 hfit.1.2).1
  rw [hfit.2,this.2]
  exact this.1.2.2
 rw [he] at cf ⊢
 rw [show loR 0 ns (sqS (ns.length:Int) o y)=lyR ns (sqS (ns.length:Int) o y) from rfl,show loE 0 ns (sqS (ns.length:Int) o y)=lyE ns (sqS (ns.length:Int) o y) from rfl,show loN 0 ns (sqS (ns.length:Int) o y)=lyM ns (sqS (ns.length:Int) o y) from rfl]
 obtain ⟨_,_,_,e4,HX⟩:=h.nums.lst
 cases e4
 have hyn:=HX.out.1
 have HY:Hid (RI y∧y.length=n∧KeptL B w (.slice p n c) y):=⟨hy,hyn,h⟩
 obtain ⟨N,eN⟩:∃ N:Int,(ns.length:Int)=N:=⟨_,rfl⟩
 have hN:0≤N∧N≤512:=by omega
 have hO:0≤o∧o < N:=by omega
 have cln:Hid (∀ W,Below w.heap.size w W→Calls Tryz.prog 40 #[.pointer (some ⟨tb,0,none⟩)] W fun e w'=>e = .returned (.int .i64 N)∧w'=W):=fun W hW=>by
  rw [← eN]
  exact clen_any B tb ns W (hT.up hW)
 rw [eN]
 have hn:n≤4096:=by omega
 have HS:Hid (∀ i,i < (sqS N o y).length→StpOk (stA (sqS N o y) i)):=fun i hi=>by
  have h0:InR 0:=by unfold InR;omega
  match i,hi with
  | 0,_=>exact stp_leaf hy hyl
  | 1,_=>exact stp_op (by omega) (by unfold InR;omega) (by unfold InR;omega) h0
  | 2,_=>exact stp_op (by omega) (by unfold InR;omega) (by unfold InR;omega) (by unfold InR;omega)
  | 3,_=>exact stp_op (by omega) (by unfold InR;omega) h0 h0
 have hn':(n:Int)≤4096:=by omega
 obtain ⟨R,eR⟩:∃ R,lyR ns (sqS N o y)=R:=⟨_,rfl⟩
 obtain ⟨E,eE⟩:∃ R,lyE ns (sqS N o y)=R:=⟨_,rfl⟩
 obtain ⟨NS,eNS⟩:∃ R,lyM ns (sqS N o y)=R:=⟨_,rfl⟩
 have HRE:Hid (lyR ns (sqS N o y)=R∧lyE ns (sqS N o y)=E∧lyM ns (sqS N o y)=NS):=⟨eR,eE,eNS⟩
 rw [eR,eE,eNS]
 clear he hfit hyl HX hyn h hy hT hG hl eN eR eE eNS
 go_enter Tryz.func42,Tryz.ntmps42
 go_wp2_with fail
 refine cf.mono ?_
 rintro e w1 ⟨rfl,hB1⟩
 have HB1:Hid (Below w.heap.size w w1):=hB1
 clear hB1 cf
 go_wp2_with fail
 refine (cln.out w1 HB1.out).mono ?_
 rintro e w2 ⟨rfl,rfl⟩
 clear cln
 go_wp2_with fail
 refine (crowof_any p n c w2 hn).mono ?_
 rintro e w3 ⟨g3,rfl,h3,hB3⟩
 have H3:Hid (OwnK .i64 3 w3 w2.heap.size (.slice (some ⟨g3,0,none⟩) 1 1) [(n:Int)]∧Below w.heap.size w w3):=⟨h3,bstep HB1.out hB3⟩
 clear h3 hB3
 go_wp2_with fail
 generalize hK:World.alloc _ _=K
 have hB4:Below w3.heap.size w3 K:=by rw [← hK];exact up_alloc w3 _
 have hL:K.heap[w3.heap.size]?=some (.cells [.int .i64 1,.int .i64 0,.int .i64 0,.int .i64 0,.slice (some ⟨g3,0,none⟩) 1 1,.slice p n c,.int .i64 3,.int .i64 o,.int .i64 N,.int .i64 0,.slice none 0 0,.slice none 0 0,.int .i64 4,.int .i64 (N+1),.int .i64 (N+1),.int .i64 0,.slice none 0 0,.slice none 0 0,.int .i64 10,.int .i64 (N+2),.int .i64 0,.int .i64 0,.slice none 0 0,.slice none 0 0].toArray 136 (0,0)):=by rw [← hK];exact heap_alloc_new _ _
 have hb:Below w.heap.size w K:=bstep H3.out.2 hB4
 have hBK:Below B w K:=hb.mono HZ.out
 have cl:=clay_any B tb ns HT.out.2.1 (sqS N o y) HS.out HT.out.2.2 w3.heap.size 4 _ rfl (by omega) K (HT.out.1.up hb) (show Hid _ from fun W hW=>hTz.out W (hBK.trans hW)) hL (fun i hi=>by
  match i,hi with
  | 0,_=>exact ⟨_,_,_,_,_,_,rfl,rfl,rfl,rfl,rfl,rfl,by show KeptL _ _ _ [(y.length:Int)];rw [HY.out.2.1];exact (H3.out.1.up hB4).keptL (by decide),HY.out.2.2.up hBK (Only.of hb)⟩
  | 1,_=>exact ⟨_,_,_,_,_,_,rfl,rfl,rfl,rfl,rfl,rfl,KeptL.nil _ _,KeptL.nil _ _⟩
  | 2,_=>exact ⟨_,_,_,_,_,_,rfl,rfl,rfl,rfl,rfl,rfl,KeptL.nil _ _,KeptL.nil _ _⟩
  | 3,_=>exact ⟨_,_,_,_,_,_,rfl,rfl,rfl,rfl,rfl,rfl,KeptL.nil _ _,KeptL.nil _ _⟩)
 have HK:Hid (Below w.heap.size w K):=hb
 rw [HRE.out.1,HRE.out.2.1,HRE.out.2.2] at cl
 clear hK hB4 hL hb hBK HS HRE
 refine cl.mono ?_
 rintro e w5 ⟨rfl,hT5,hB5,hO5,hS5⟩
 have HF:Hid (TapC w5 B tb NS∧Below B w w5∧Only SC w w5∧Spar2 tb w w5):=⟨hT5,(HK.out.mono HZ.out).trans hB5,(Only.of HK.out).trans hO5,Spar2.trans (Spar2.of HK.out) hS5 HK.out.size⟩
 clear hT5 hB5 hO5 hS5 cl
 go_wp2
 go_ret2
 exact ⟨rfl,HF.out⟩
theorem closz_any (B tb:Nat) (ns:List Nd) (hG:NodesG ns) (hl:ns.length≤512) (o:Int) (p:Option Addr) (n c:Nat) (y:List Int) (hy:RI y) (w:World) (hT:TapC w B tb ns) (hTz:Hid (∀ W,Below B w W→Tz W)) (h:KeptL B w (.slice p n c) y):
  Calls Tryz.prog 43 #[.pointer (some ⟨tb,0,none⟩),.int .i64 o,.slice p n c] w fun e w'=>e = .returned (.tuple #[.int .i64 (loR (fitE ns o y) ns (szS (ns.length:Int) o y)),.int .i64 (loE (fitE ns o y) ns (szS (ns.length:Int) o y))])∧TapC w' B tb (loN (fitE ns o y) ns (szS (ns.length:Int) o y))∧Below B w w'∧Only SC w w'∧Spar2 tb w w':=by
 haveI:Nonempty World:=⟨w⟩
 have HZ:Hid (B≤w.heap.size):=by
  obtain ⟨hb,v,xs,hv,_⟩:=hT
  exact Nat.le_trans hb (Nat.le_of_lt (heap_lt hv))
 have cf:=cfits_any B tb ns hG o p n c y w hT h.nums
 have HT:Hid (TapC w B tb ns∧NodesG ns∧ns.length≤512):=⟨hT,hG,hl⟩
 by_cases he:fitE ns o y=0
 case neg=>
  rw [show loR (fitE ns o y) ns (szS (ns.length:Int) o y)=0 from if_neg he,show loE (fitE ns o y) ns (szS (ns.length:Int) o y)=fitE ns o y from if_neg he,show loN (fitE ns o y) ns (szS (ns.length:Int) o y)=ns from if_neg he]
  obtain ⟨E,eE⟩:∃ E,fitE ns o y=E:=⟨_,rfl⟩
  rw [eE] at cf he ⊢
  have he':(E != 0)=true:=by simpa using he
  clear eE he h hT hG hTz hy
  go_enter Tryz.func43,Tryz.ntmps43
  go_wp2_with fail
  refine cf.mono ?_
  rintro e w1 ⟨rfl,hB1⟩
  have HF:Hid (TapC w1 B tb ns∧Below B w w1∧Only SC w w1∧Spar2 tb w w1):=⟨HT.out.1.up hB1,hB1.mono HZ.out,Only.of hB1,Spar2.of hB1⟩
  clear hB1 cf
  go_wp2
  go_ret2
  exact ⟨rfl,HF.out⟩
 have hfit:(0≤o∧o < (ns.length:Int))∧y.length=(ndN ns o).X.length:=by
  by_cases h':(0≤o∧o < (ns.length:Int))∧y.length=(ndN ns o).X.length
  ·exact h'
  ·exact absurd ((if_neg h').symm.trans he) (by decide)
 have hyl:y.length≤4096:=by
  have:=(hG.at hfit.1.1 hfit.1.2).1
  rw [hfit.2,this.2]
  exact this.1.2.2
 rw [he] at cf ⊢
 rw [show loR 0 ns (szS (ns.length:Int) o y)=lyR ns (szS (ns.length:Int) o y) from rfl,show loE 0 ns (szS (ns.length:Int) o y)=lyE ns (szS (ns.length:Int) o y) from rfl,show loN 0 ns (szS (ns.length:Int) o y)=lyM ns (szS (ns.length:Int) o y) from rfl]
 obtain ⟨_,_,_,e4,HX⟩:=h.nums.lst
 cases e4
 have hyn:=HX.out.1
 have HY:Hid (RI y∧y.length=n∧KeptL B w (.slice p n c) y):=⟨hy,hyn,h⟩
 obtain ⟨N,eN⟩:∃ N:Int,(ns.length:Int)=N:=⟨_,rfl⟩
 have hN:0≤N∧N≤512:=by omega
 have hO:0≤o∧o < N:=by omega
 have cln:Hid (∀ W,Below w.heap.size w W→Calls Tryz.prog 40 #[.pointer (some ⟨tb,0,none⟩)] W fun e w'=>e = .returned (.int .i64 N)∧w'=W):=fun W hW=>by
  rw [← eN]
  exact clen_any B tb ns W (hT.up hW)
 rw [eN]
 have hn:n≤4096:=by omega
 have HS:Hid (∀ i,i < (szS N o y).length→StpOk (stA (szS N o y) i)):=fun i hi=>by
  have h0:InR 0:=by unfold InR;omega
  match i,hi with
  | 0,_=>exact stp_leaf hy hyl
  | 1,_=>exact stp_op (by omega) (by unfold InR;omega) (by unfold InR;omega) h0
  | 2,_=>exact stp_op (by omega) (by unfold InR;omega) (by unfold InR;omega) (by unfold InR;omega)
  | 3,_=>exact stp_op (by omega) (by unfold InR;omega) h0 h0
 have hn':(n:Int)≤4096:=by omega
 obtain ⟨R,eR⟩:∃ R,lyR ns (szS N o y)=R:=⟨_,rfl⟩
 obtain ⟨E,eE⟩:∃ R,lyE ns (szS N o y)=R:=⟨_,rfl⟩
 obtain ⟨NS,eNS⟩:∃ R,lyM ns (szS N o y)=R:=⟨_,rfl⟩
 have HRE:Hid (lyR ns (szS N o y)=R∧lyE ns (szS N o y)=E∧lyM ns (szS N o y)=NS):=⟨eR,eE,eNS⟩
 rw [eR,eE,eNS]
 clear he hfit hyl HX hyn h hy hT hG hl eN eR eE eNS
 go_enter Tryz.func43,Tryz.ntmps43
 go_wp2_with fail
 refine cf.mono ?_
 rintro e w1 ⟨rfl,hB1⟩
 have HB1:Hid (Below w.heap.size w w1):=hB1
 clear hB1 cf
 go_wp2_with fail
 refine (cln.out w1 HB1.out).mono ?_
 rintro e w2 ⟨rfl,rfl⟩
 clear cln
 go_wp2_with fail
 refine (crowof_any p n c w2 hn).mono ?_
 rintro e w3 ⟨g3,rfl,h3,hB3⟩
 have H3:Hid (OwnK .i64 3 w3 w2.heap.size (.slice (some ⟨g3,0,none⟩) 1 1) [(n:Int)]∧Below w.heap.size w w3):=⟨h3,bstep HB1.out hB3⟩
 clear h3 hB3
 go_wp2_with fail
 generalize hK:World.alloc _ _=K
 have hB4:Below w3.heap.size w3 K:=by rw [← hK];exact up_alloc w3 _
 have hL:K.heap[w3.heap.size]?=some (.cells [.int .i64 1,.int .i64 0,.int .i64 0,.int .i64 0,.slice (some ⟨g3,0,none⟩) 1 1,.slice p n c,.int .i64 3,.int .i64 o,.int .i64 N,.int .i64 0,.slice none 0 0,.slice none 0 0,.int .i64 11,.int .i64 (N+1),.int .i64 0,.int .i64 4,.slice none 0 0,.slice none 0 0,.int .i64 10,.int .i64 (N+2),.int .i64 0,.int .i64 0,.slice none 0 0,.slice none 0 0].toArray 136 (0,0)):=by rw [← hK];exact heap_alloc_new _ _
 have hb:Below w.heap.size w K:=bstep H3.out.2 hB4
 have hBK:Below B w K:=hb.mono HZ.out
 have cl:=clay_any B tb ns HT.out.2.1 (szS N o y) HS.out HT.out.2.2 w3.heap.size 4 _ rfl (by omega) K (HT.out.1.up hb) (show Hid _ from fun W hW=>hTz.out W (hBK.trans hW)) hL (fun i hi=>by
  match i,hi with
  | 0,_=>exact ⟨_,_,_,_,_,_,rfl,rfl,rfl,rfl,rfl,rfl,by show KeptL _ _ _ [(y.length:Int)];rw [HY.out.2.1];exact (H3.out.1.up hB4).keptL (by decide),HY.out.2.2.up hBK (Only.of hb)⟩
  | 1,_=>exact ⟨_,_,_,_,_,_,rfl,rfl,rfl,rfl,rfl,rfl,KeptL.nil _ _,KeptL.nil _ _⟩
  | 2,_=>exact ⟨_,_,_,_,_,_,rfl,rfl,rfl,rfl,rfl,rfl,KeptL.nil _ _,KeptL.nil _ _⟩
  | 3,_=>exact ⟨_,_,_,_,_,_,rfl,rfl,rfl,rfl,rfl,rfl,KeptL.nil _ _,KeptL.nil _ _⟩)
 have HK:Hid (Below w.heap.size w K):=hb
 rw [HRE.out.1,HRE.out.2.1,HRE.out.2.2] at cl
 clear hK hB4 hL hb hBK HS HRE
 refine cl.mono ?_
 rintro e w5 ⟨rfl,hT5,hB5,hO5,hS5⟩
 have HF:Hid (TapC w5 B tb NS∧Below B w w5∧Only SC w w5∧Spar2 tb w w5):=⟨hT5,(HK.out.mono HZ.out).trans hB5,(Only.of HK.out).trans hO5,Spar2.trans (Spar2.of HK.out) hS5 HK.out.size⟩
 clear hT5 hB5 hO5 hS5 cl
 go_wp2
 go_ret2
 exact ⟨rfl,HF.out⟩
theorem RI_but {m:Nat} {a c t:Int} (ha:InR a) (ht:InR t):RI (butV m a c t):=fun y hy=>by
 rcases List.mem_or_eq_of_mem_set hy with h|h
 ·rw [(List.mem_replicate.1 h).2]
  exact ha
 ·rw [h]
  exact ht
theorem but_length (m:Nat) (a c t:Int):(butV m a c t).length=m:=by simp [butV]
theorem chinge_any (B tb:Nat) (ns:List Nd) (hG:NodesG ns) (hl:ns.length≤512) (o cl:Int) (w:World) (hT:TapC w B tb ns) (hTz:Hid (∀ W,Below B w W→Tz W)):
  Calls Tryz.prog 44 #[.pointer (some ⟨tb,0,none⟩),.int .i64 o,.int .i64 cl] w fun e w'=>e = .returned (.tuple #[.int .i64 (loR (plcE ns o cl) ns (hgS (ns.length:Int) o (plcN ns o cl) cl)),.int .i64 (loE (plcE ns o cl) ns (hgS (ns.length:Int) o (plcN ns o cl) cl))])∧TapC w' B tb (loN (plcE ns o cl) ns (hgS (ns.length:Int) o (plcN ns o cl) cl))∧Below B w w'∧Only SC w w'∧Spar2 tb w w':=by
 haveI:Nonempty World:=⟨w⟩
 have HZ:Hid (B≤w.heap.size):=by
  obtain ⟨hb,v,xs,hv,_⟩:=hT
  exact Nat.le_trans hb (Nat.le_of_lt (heap_lt hv))
 have cf:=cplc_any B tb ns hG o cl w hT
 have HT:Hid (TapC w B tb ns∧NodesG ns∧ns.length≤512):=⟨hT,hG,hl⟩
 by_cases he:plcE ns o cl=0
 case neg=>
  have e0:∀ n,loR (plcE ns o cl) ns (hgS (ns.length:Int) o n cl)=0:=fun n=>if_neg he
  have e1:∀ n,loE (plcE ns o cl) ns (hgS (ns.length:Int) o n cl)=plcE ns o cl:=fun n=>if_neg he
  have e2:∀ n,loN (plcE ns o cl) ns (hgS (ns.length:Int) o n cl)=ns:=fun n=>if_neg he
  rw [e0,e1,e2]
  have e3:plcN ns o cl=0:=if_neg he
  rw [e3] at cf
  obtain ⟨E,eE⟩:∃ E,plcE ns o cl=E:=⟨_,rfl⟩
  rw [eE] at cf he ⊢
  have he':(E != 0)=true:=by simpa using he
  clear eE he hT hG hTz e0 e1 e2 e3
  go_enter Tryz.func44,Tryz.ntmps44
  go_wp2_with fail
  refine cf.mono ?_
  rintro e w1 ⟨rfl,hB1⟩
  have HF:Hid (TapC w1 B tb ns∧Below B w w1∧Only SC w w1∧Spar2 tb w w1):=⟨HT.out.1.up hB1,hB1.mono HZ.out,Only.of hB1,Spar2.of hB1⟩
  clear hB1 cf
  go_wp2
  go_ret2
  exact ⟨rfl,HF.out⟩
 have ho:0≤o∧o < (ns.length:Int):=by
  by_cases h':0≤o∧o < (ns.length:Int)
  ·exact h'
  ·exact absurd ((if_neg h').symm.trans he) (by decide)
 have hcl:0≤cl∧cl < ((ndN ns o).X.length:Int):=by
  by_cases h':(ndN ns o).D.length=1∧0≤cl∧cl < ((ndN ns o).X.length:Int)
  ·exact h'.2
  ·exact absurd (((if_pos ho).trans (if_neg h')).symm.trans he) (by decide)
 have hx4:(ndN ns o).X.length≤4096:=by
  have:=(hG.at ho.1 ho.2).1
  rw [this.2]
  exact this.1.2.2
 have en:plcN ns o cl=(ndN ns o).X.length:=if_pos he
 rw [he] at cf ⊢
 obtain ⟨n,en2⟩:∃ n,plcN ns o cl=n:=⟨_,rfl⟩
 rw [en2] at cf ⊢
 rw [en2] at en
 have hn:1≤n∧n≤4096:=by omega
 obtain ⟨ci,rfl⟩:∃ ci:Nat,cl=(ci:Int):=⟨cl.toNat,by omega⟩
 have hci:ci < n:=by omega
 rw [show loR 0 ns (hgS (ns.length:Int) o n (ci:Int))=lyR ns (hgS (ns.length:Int) o n (ci:Int)) from rfl,show loE 0 ns (hgS (ns.length:Int) o n (ci:Int))=lyE ns (hgS (ns.length:Int) o n (ci:Int)) from rfl,show loN 0 ns (hgS (ns.length:Int) o n (ci:Int))=lyM ns (hgS (ns.length:Int) o n (ci:Int)) from rfl]
 obtain ⟨N,eN⟩:∃ N:Int,(ns.length:Int)=N:=⟨_,rfl⟩
 have hN:0≤N∧N≤512:=by omega
 have hO:0≤o∧o < N:=by omega
 have cln:Hid (∀ W,Below w.heap.size w W→Calls Tryz.prog 40 #[.pointer (some ⟨tb,0,none⟩)] W fun e w'=>e = .returned (.int .i64 N)∧w'=W):=fun W hW=>by
  rw [← eN]
  exact clen_any B tb ns W (hT.up hW)
 rw [eN]
 have HS:Hid (∀ i,i < (hgS N o n (ci:Int)).length→StpOk (stA (hgS N o n (ci:Int)) i)):=fun i hi=>by
  match i,hi with
  | 0,_=>exact stp_leaf (RI_but (by unfold InR;omega) (by unfold InR;omega)) (by rw [but_length];exact hn.2)
  | 1,_=>exact stp_leaf (RI_but (by unfold InR;omega) (by unfold InR;omega)) (by rw [but_length];exact hn.2)
  | 2,_=>exact stp_op (by omega) (by unfold InR;omega) (by unfold InR;omega) (by unfold InR;omega)
  | 3,_=>exact stp_op (by omega) (by unfold InR;omega) (by unfold InR;omega) (by unfold InR;omega)
  | 4,_=>exact stp_op (by omega) (by unfold InR;omega) (by unfold InR;omega) (by unfold InR;omega)
  | 5,_=>exact stp_op (by omega) (by unfold InR;omega) (by unfold InR;omega) (by unfold InR;omega)
  | 6,_=>exact stp_op (by omega) (by unfold InR;omega) (by unfold InR;omega) (by unfold InR;omega)
  | 7,_=>exact stp_op (by omega) (by unfold InR;omega) (by unfold InR;omega) (by unfold InR;omega)
  | 8,_=>exact stp_op (by omega) (by unfold InR;omega) (by unfold InR;omega) (by unfold InR;omega)
 have hn':(n:Int)≤4096∧1≤(n:Int):=by omega
 have hci':(ci:Int) < (n:Int):=by omega
 obtain ⟨R,eR⟩:∃ R,lyR ns (hgS N o n (ci:Int))=R:=⟨_,rfl⟩
 obtain ⟨E,eE⟩:∃ R,lyE ns (hgS N o n (ci:Int))=R:=⟨_,rfl⟩
 obtain ⟨NS,eNS⟩:∃ R,lyM ns (hgS N o n (ci:Int))=R:=⟨_,rfl⟩
 have HRE:Hid (lyR ns (hgS N o n (ci:Int))=R∧lyE ns (hgS N o n (ci:Int))=E∧lyM ns (hgS N o n (ci:Int))=NS):=⟨eR,eE,eNS⟩
 rw [eR,eE,eNS]
 clear he ho hcl hx4 en en2 hT hG hl eN eR eE eNS
 go_enter Tryz.func44,Tryz.ntmps44
 go_wp2_with fail
 refine cf.mono ?_
 rintro e w1 ⟨rfl,hB1⟩
 have HB1:Hid (Below w.heap.size w w1):=hB1
 clear hB1 cf
 go_wp2_with fail
 refine (cln.out w1 HB1.out).mono ?_
 rintro e w2 ⟨rfl,rfl⟩
 go_wp2_with fail
 refine (cln.out w2 HB1.out).mono ?_
 rintro e w22 ⟨rfl,rfl⟩
 clear cln
 go_wp2_with fail
 refine (crowbut_any n hn 0 (-4294967296) ci hci w22).mono ?_
 rintro e w3 ⟨g3,f3,c3,rfl,h3,k3,hB3⟩
 have H3:Hid (OwnK .i64 3 w3 w22.heap.size (.slice (some ⟨g3,0,none⟩) 1 1) [(n:Int)]∧OwnK .i64 23 w3 w22.heap.size (.slice (some ⟨f3,0,none⟩) n c3) (butV n 0 (ci:Int) (-4294967296))∧Below w.heap.size w w3):=⟨h3,k3,bstep HB1.out hB3⟩
 clear h3 k3 hB3
 go_wp2_with fail
 refine (crowbut_any n hn 4294967296 0 ci hci w3).mono ?_
 rintro e w4 ⟨g4,f4,c4,rfl,h4,k4,hB4⟩
 have H4:Hid (OwnK .i64 3 w4 w3.heap.size (.slice (some ⟨g4,0,none⟩) 1 1) [(n:Int)]∧OwnK .i64 23 w4 w3.heap.size (.slice (some ⟨f4,0,none⟩) n c4) (butV n 4294967296 (ci:Int) 0)∧Below w3.heap.size w3 w4):=⟨h4,k4,hB4⟩
 clear h4 k4 hB4
 go_wp2_with fail
 generalize hK:World.alloc _ _=K
 have hB5:Below w4.heap.size w4 K:=by rw [← hK];exact up_alloc w4 _
 have hL:K.heap[w4.heap.size]?=some (.cells [.int .i64 1,.int .i64 0,.int .i64 0,.int .i64 0,.slice (some ⟨g3,0,none⟩) 1 1,.slice (some ⟨f3,0,none⟩) n c3,.int .i64 1,.int .i64 0,.int .i64 0,.int .i64 0,.slice (some ⟨g4,0,none⟩) 1 1,.slice (some ⟨f4,0,none⟩) n c4,.int .i64 4,.int .i64 o,.int .i64 N,.int .i64 0,.slice none 0 0,.slice none 0 0,.int .i64 9,.int .i64 (N+2),.int .i64 0,.int .i64 0,.slice none 0 0,.slice none 0 0,.int .i64 2,.int .i64 o,.int .i64 (N+3),.int .i64 0,.slice none 0 0,.slice none 0 0,.int .i64 2,.int .i64 (N+4),.int .i64 (N+1),.int .i64 0,.slice none 0 0,.slice none 0 0,.int .i64 11,.int .i64 (N+5),.int .i64 0,.int .i64 1,.slice none 0 0,.slice none 0 0,.int .i64 4,.int .i64 (N+6),.int .i64 (N+1),.int .i64 0,.slice none 0 0,.slice none 0 0,.int .i64 9,.int .i64 (N+7),.int .i64 0,.int .i64 0,.slice none 0 0,.slice none 0 0].toArray 136 (0,0)):=by rw [← hK];exact heap_alloc_new _ _
 have hb3:Below w3.heap.size w3 K:=bstep H4.out.2.2 hB5
 have hb:Below w.heap.size w K:=bstep H3.out.2.2 hb3
 have hBK:Below B w K:=hb.mono HZ.out
 have cl:=clay_any B tb ns HT.out.2.1 (hgS N o n (ci:Int)) HS.out HT.out.2.2 w4.heap.size 9 _ rfl (by omega) K (HT.out.1.up hb) (show Hid _ from fun W hW=>hTz.out W (hBK.trans hW)) hL (fun i hi=>by
  match i,hi with
  | 0,_=>exact ⟨_,_,_,_,_,_,rfl,rfl,rfl,rfl,rfl,rfl,by show KeptL _ _ _ [((butV n 0 (ci:Int) (-4294967296)).length:Int)];rw [but_length];exact (H3.out.1.up hb3).keptL (by decide),(H3.out.2.1.up hb3).keptL (by decide)⟩
  | 1,_=>exact ⟨_,_,_,_,_,_,rfl,rfl,rfl,rfl,rfl,rfl,by show KeptL _ _ _ [((butV n 4294967296 (ci:Int) 0).length:Int)];rw [but_length];exact (H4.out.1.up hB5).keptL (by decide),(H4.out.2.1.up hB5).keptL (by decide)⟩
  | 2,_=>exact ⟨_,_,_,_,_,_,rfl,rfl,rfl,rfl,rfl,rfl,KeptL.nil _ _,KeptL.nil _ _⟩
  | 3,_=>exact ⟨_,_,_,_,_,_,rfl,rfl,rfl,rfl,rfl,rfl,KeptL.nil _ _,KeptL.nil _ _⟩
  | 4,_=>exact ⟨_,_,_,_,_,_,rfl,rfl,rfl,rfl,rfl,rfl,KeptL.nil _ _,KeptL.nil _ _⟩
  | 5,_=>exact ⟨_,_,_,_,_,_,rfl,rfl,rfl,rfl,rfl,rfl,KeptL.nil _ _,KeptL.nil _ _⟩
  | 6,_=>exact ⟨_,_,_,_,_,_,rfl,rfl,rfl,rfl,rfl,rfl,KeptL.nil _ _,KeptL.nil _ _⟩
  | 7,_=>exact ⟨_,_,_,_,_,_,rfl,rfl,rfl,rfl,rfl,rfl,KeptL.nil _ _,KeptL.nil _ _⟩
  | 8,_=>exact ⟨_,_,_,_,_,_,rfl,rfl,rfl,rfl,rfl,rfl,KeptL.nil _ _,KeptL.nil _ _⟩)
 have HK:Hid (Below w.heap.size w K):=hb
 rw [HRE.out.1,HRE.out.2.1,HRE.out.2.2] at cl
 clear hK hB5 hL hb hBK hb3 HS HRE
 refine cl.mono ?_
 rintro e w5 ⟨rfl,hT5,hB5,hO5,hS5⟩
 have HF:Hid (TapC w5 B tb NS∧Below B w w5∧Only SC w w5∧Spar2 tb w w5):=⟨hT5,(HK.out.mono HZ.out).trans hB5,(Only.of HK.out).trans hO5,Spar2.trans (Spar2.of HK.out) hS5 HK.out.size⟩
 clear hT5 hB5 hO5 hS5 cl
 go_wp2
 go_ret2
 exact ⟨rfl,HF.out⟩
/-- A row of tensors in a block, cell by cell. -/
def TsK (W:World) (B:Nat) (l:List Ten) (xs:List Value):Prop:=xs.length=l.length*2∧∀ i t,l[i]?=some t→∃ s u,xs[i*2]?=some s∧xs[i*2+1]?=some u∧OwnK .i64 3 W B s t.1∧OwnK .i64 23 W B u t.2
theorem TsK.only {S:List TypeId} {W W':World} {B:Nat} {l:List Ten} {xs:List Value} (h:TsK W B l xs) (ho:Only S W W') (h1:3∉S) (h2:23∉S):TsK W' B l xs:=⟨h.1,fun i t hi=>by
 obtain ⟨s,u,a1,a2,a3,a4⟩:=h.2 i t hi
 exact ⟨s,u,a1,a2,a3.only ho h1,a4.only ho h2⟩⟩
theorem TsK.set {W:World} {B:Nat} {l:List Ten} {xs:List Value} (h:TsK W B l xs) {j:Nat} (hj:j < l.length) {s u:Value} {t:Ten} (hs:OwnK .i64 3 W B s t.1) (hu:OwnK .i64 23 W B u t.2):TsK W B (l.set j t) ((xs.set (j*2) s).set (j*2+1) u):=by
 have hl:=h.1
 refine ⟨by simp [h.1],fun i t' hi=>?_⟩
 rw [List.getElem?_set] at hi
 by_cases e:j=i
 ·subst e
  rw [if_pos rfl,if_pos hj] at hi
  cases hi
  refine ⟨s,u,?_,?_,hs,hu⟩
  ·rw [List.getElem?_set,if_neg (by omega),List.getElem?_set,if_pos rfl,if_pos (by omega)]
  ·rw [List.getElem?_set,if_pos rfl,if_pos (by rw [List.length_set];omega)]
 ·rw [if_neg e] at hi
  obtain ⟨s',u',a1,a2,a3,a4⟩:=h.2 i t' hi
  refine ⟨s',u',?_,?_,a3,a4⟩
  ·rw [List.getElem?_set,if_neg (by omega),List.getElem?_set,if_neg (by omega)]
   exact a1
  ·rw [List.getElem?_set,if_neg (by omega),List.getElem?_set,if_neg (by omega)]
   exact a2
/-- A sweep on its way: the tape, the gradients so far, which nodes were given anything. -/
structure SwC (W:World) (B sb tb gb vb N:Nat) (l:List Ten) (gv:List Bool):Prop where
 hs:W.heap[sb]?=some (.cells #[.pointer (some ⟨tb,0,none⟩),.slice (some ⟨gb,0,none⟩) N N,.slice (some ⟨vb,0,none⟩) N N] 107 (0,0))
 hg:∃ xs,W.heap[gb]?=some (.cells xs.toArray 64 (0,0))∧TsK W B l xs
 hv:W.heap[vb]?=some (.cells (gv.map Value.bool).toArray 4 (0,0))
 bs:B≤sb∧B≤gb∧B≤vb
 ll:l.length=N
 lv:gv.length=N
theorem SwC.up {W W':World} {B sb tb gb vb N:Nat} {l:List Ten} {gv:List Bool} (h:SwC W B sb tb gb vb N l gv) (hB:Below W.heap.size W W'):SwC W' B sb tb gb vb N l gv:=by
 obtain ⟨xs,hx,hk⟩:=h.hg
 exact ⟨(hB.block _ (heap_lt h.hs)).trans h.hs,⟨xs,(hB.block _ (heap_lt hx)).trans hx,hk.only (S:=[]) (Only.of hB) (by simp) (by simp)⟩,(hB.block _ (heap_lt h.hv)).trans h.hv,h.bs,h.ll,h.lv⟩
theorem box_cell {W:World} {b i:Nat} {cs:Array Value} {e:TypeId} {v:Value} (h:W.heap[b]?=some (.cells cs e (0,0))) (hv:cs[i]?=some v):W.cell? ⟨b,i,none⟩=some v∧W.frozen? ⟨b,i,none⟩=false:=by
 constructor
 ·unfold World.cell?
  simpa [h] using hv
 ·unfold World.frozen?
  simp [h]
theorem kind_ne {W:World} {b b':Nat} {cs cs':Array Value} {e e':TypeId} (h:W.heap[b]?=some (.cells cs e (0,0))) (h':W.heap[b']?=some (.cells cs' e' (0,0))) (hne:e≠e'):b≠b':=fun eq=>by
 subst eq
 rw [h] at h'
 cases h'
 exact hne rfl
theorem SwC.tape {W:World} {B sb tb gb vb N:Nat} {l:List Ten} {gv:List Bool} (h:SwC W B sb tb gb vb N l gv):W.cell? ⟨sb,0,none⟩=some (.pointer (some ⟨tb,0,none⟩))∧W.cell? ⟨sb,1,none⟩=some (.slice (some ⟨gb,0,none⟩) N N)∧W.cell? ⟨sb,2,none⟩=some (.slice (some ⟨vb,0,none⟩) N N):=
 ⟨(box_cell h.hs rfl).1,(box_cell h.hs rfl).1,(box_cell h.hs rfl).1⟩
theorem SwC.read {W:World} {B sb tb gb vb N:Nat} {l:List Ten} {gv:List Bool} (h:SwC W B sb tb gb vb N l gv) {i:Nat} {t:Ten} (hi:l[i]?=some t):
  ∃ s u,(W.cell? ⟨gb,i*2,none⟩=some s∧W.frozen? ⟨gb,i*2,none⟩=false)∧(W.cell? ⟨gb,i*2+1,none⟩=some u∧W.frozen? ⟨gb,i*2+1,none⟩=false)∧OwnK .i64 3 W B s t.1∧OwnK .i64 23 W B u t.2:=by
 obtain ⟨xs,hx,hk⟩:=h.hg
 obtain ⟨s,u,a1,a2,a3,a4⟩:=hk.2 i t hi
 exact ⟨s,u,box_cell hx (by simpa using a1),box_cell hx (by simpa using a2),a3,a4⟩
theorem SwC.flag {W:World} {B sb tb gb vb N:Nat} {l:List Ten} {gv:List Bool} (h:SwC W B sb tb gb vb N l gv) {i:Nat} (hi:i < N):W.cell? ⟨vb,i,none⟩=some (.bool (gv.getD i false))∧W.frozen? ⟨vb,i,none⟩=false:=by
 refine box_cell h.hv ?_
 have:=h.lv
 rw [List.getElem?_toArray,List.getElem?_map,List.getD_eq_getElem?_getD,List.getElem?_eq_getElem (by omega)]
 rfl
theorem SwC.set {W:World} {B sb tb gb vb N:Nat} {l:List Ten} {gv:List Bool} (h:SwC W B sb tb gb vb N l gv) {j:Nat} (hj:j < N) {s u:Value} {t:Ten} (hs:OwnK .i64 3 W B s t.1) (hu:OwnK .i64 23 W B u t.2):SwC ((W.setCell ⟨gb,j*2,none⟩ s).setCell ⟨gb,j*2+1,none⟩ u) B sb tb gb vb N (l.set j t) gv:=by
 obtain ⟨xs,hx,hk⟩:=h.hg
 have n1:sb≠gb:=kind_ne h.hs hx (by decide)
 have n2:vb≠gb:=kind_ne h.hv hx (by decide)
 have o1:=Only.set (S:=[64]) (o:=j*2) (x:=s) hx (by simp)
 have x1:=heap_setat (o:=j*2) (x:=s) hx
 have o2:=Only.set (S:=[64]) (o:=j*2+1) (x:=u) x1 (by simp)
 have x2:=heap_setat (o:=j*2+1) (x:=u) x1
 refine ⟨?_,⟨(xs.set (j*2) s).set (j*2+1) u,?_,(hk.set (by rw [h.ll];exact hj) hs hu).only (o1.trans o2) (by decide) (by decide)⟩,?_,h.bs,by rw [List.length_set];exact h.ll,h.lv⟩
 ·rw [heap_set _ _ _ _ _ n1,heap_set _ _ _ _ _ n1]
  exact h.hs
 ·rw [x2]
  simp
 ·rw [heap_set _ _ _ _ _ n2,heap_set _ _ _ _ _ n2]
  exact h.hv
theorem SwC.mark {W:World} {B sb tb gb vb N:Nat} {l:List Ten} {gv:List Bool} (h:SwC W B sb tb gb vb N l gv) (j:Nat):SwC (W.setCell ⟨vb,j,none⟩ (.bool true)) B sb tb gb vb N l (gv.set j true):=by
 obtain ⟨xs,hx,hk⟩:=h.hg
 have n1:sb≠vb:=kind_ne h.hs h.hv (by decide)
 have n2:gb≠vb:=kind_ne hx h.hv (by decide)
 have o1:=Only.set (S:=[4]) (o:=j) (x:=.bool true) h.hv (by simp)
 refine ⟨?_,⟨xs,?_,hk.only o1 (by decide) (by decide)⟩,?_,h.bs,h.ll,by rw [List.length_set];exact h.lv⟩
 ·rw [heap_set _ _ _ _ _ n1]
  exact h.hs
 ·rw [heap_set _ _ _ _ _ n2]
  exact hx
 ·rw [heap_setat h.hv]
  simp [List.map_set]
/-- All that stood stands but two blocks. -/
def But2 (x y:Nat) (W W':World):Prop:=W.heap.size≤W'.heap.size∧∀ k,k < W.heap.size→k≠x→k≠y→W'.heap[k]?=W.heap[k]?
theorem But2.of {x y:Nat} {W W':World} (h:Below W.heap.size W W'):But2 x y W W':=⟨h.size,fun k hk _ _=>h.block k hk⟩
theorem But2.set {x y:Nat} {W W':World} (h:But2 x y W W') {b o:Nat} {v:Value} (hb:b=x∨b=y):But2 x y W (W'.setCell ⟨b,o,none⟩ v):=⟨by simpa using h.1,fun k hk h1 h2=>by
 rw [heap_set _ _ _ _ _ (by rcases hb with rfl|rfl <;> assumption)]
 exact h.2 k hk h1 h2⟩
theorem But2.up {x y:Nat} {W W' W'':World} (h:But2 x y W W') (h2:Below W'.heap.size W' W''):But2 x y W W'':=⟨Nat.le_trans h.1 h2.size,fun k hk h3 h4=>(h2.block k (Nat.lt_of_lt_of_le hk h.1)).trans (h.2 k hk h3 h4)⟩
theorem But2.only {x y:Nat} {W W':World} (h:But2 x y W W') {cs cs':Array Value} {e e':TypeId} (hx:W.heap[x]?=some (.cells cs e (0,0))) (hy:W.heap[y]?=some (.cells cs' e' (0,0))):Only [e,e'] W W':=⟨h.1,fun k hk hp=>h.2 k hk (fun ek=>by subst ek;exact hp _ _ _ hx (by simp)) (fun ek=>by subst ek;exact hp _ _ _ hy (by simp))⟩
theorem cadd_no (n:Int) (hn:n < 0) (sb:Nat) (p1 q1:Option Addr) (n1 c1 m1 e1:Nat) (w:World):
  Calls Tryz.prog 69 #[.pointer (some ⟨sb,0,none⟩),.int .i64 n,.agg #[.slice p1 n1 c1,.slice q1 m1 e1]] w fun e w'=>e = .returned (.int .i64 0)∧Below w.heap.size w w':=by
 have d1:decide (n < 0)=true:=decide_eq_true hn
 clear hn
 go_enter Tryz.func69,Tryz.ntmps69
 go_wp2
 exact bodyPost_ret (v:=.int .i64 0) (by simp [results,Tryz.results69,go_sem]) rfl ⟨rfl,up_alloc _ _⟩
theorem cadd_any (B sb tb gb vb N:Nat) (l:List Ten) (gv:List Bool) (j:Nat) (hj:j < N) (t p:Ten) (ht:l[j]?=some t) (gt:TenG t) (gp:TenG p) (ep:p.1=t.1) (p1 q1:Option Addr) (n1 c1 m1 e1:Nat) (w:World) (hS:SwC w B sb tb gb vb N l gv) (hB:B≤w.heap.size) (h1:Nums .i64 w (.slice p1 n1 c1) p.1) (h2:Nums .i64 w (.slice q1 m1 e1) p.2):
  Calls Tryz.prog 69 #[.pointer (some ⟨sb,0,none⟩),.int .i64 (j:Int),.agg #[.slice p1 n1 c1,.slice q1 m1 e1]] w fun e w'=>e = .returned (.int .i64 0)∧SwC w' B sb tb gb vb N (l.set j (add2 t p)) (gv.set j true)∧Below B w w'∧But2 gb vb w w':=by
 obtain ⟨A,eA⟩:∃ A,add2 t p=A:=⟨_,rfl⟩
 have hE:eachE t.1 t.2 p.1 p.2=0:=by
  obtain ⟨a,ga,ea⟩:=good_itl gt.1.1
  obtain ⟨f,jj⟩:=join_same a
  obtain ⟨k1,k2⟩:=join_fine ga ga f (by rw [jj];exact ga)
  exact (if_pos ⟨gt.1,gp.1⟩).trans (by rw [ep,ea];exact k2)
 obtain ⟨s,u,⟨c0,f0⟩,⟨d0,g0⟩,hs,hu⟩:=hS.read ht
 obtain ⟨p3,n3,c3,rfl⟩:=hs.form_
 obtain ⟨q3,m3,e3,rfl⟩:=hu.form_
 have cA:Hid (∀ W,Below w.heap.size w W→Calls Tryz.prog 90 #[.agg #[.slice p3 n3 c3,.slice q3 m3 e3],.agg #[.slice p1 n1 c1,.slice q1 m1 e1]] W fun e w'=>∃ v',e = .returned (.tuple #[v',.int .i64 0])∧TRes w' W.heap.size v' A.1 A.2∧Below W.heap.size W w'):=fun W hW=>by
  have:=tadd_any p3 q3 p1 q1 n3 c3 m3 e3 n1 c1 m1 e1 t.1 t.2 p.1 p.2 gt.2.1 gt.2.2 gp.2.1 gp.2.2 W (hs.nums.up hW) (hu.nums.up hW) (h1.up hW) (h2.up hW)
  rw [hE] at this
  rw [← eA]
  exact this
 rw [eA]
 obtain ⟨b0,b1,b2⟩:=hS.tape
 have HS:Hid (SwC w B sb tb gb vb N l gv∧B≤w.heap.size):=⟨hS,hB⟩
 have HC:Hid ((w.cell? ⟨sb,1,none⟩=some (.slice (some ⟨gb,0,none⟩) N N))∧w.cell? ⟨gb,j*2,none⟩=some (.slice p3 n3 c3)∧w.cell? ⟨gb,j*2+1,none⟩=some (.slice q3 m3 e3)):=⟨b1,c0,d0⟩
 have hj':(j:Int) < (N:Int):=by omega
 have d1:decide ((j:Int) < 0)=false:=decide_eq_false (by omega)
 haveI:Nonempty World:=⟨w⟩
 clear eA hE hs hu h1 h2 gt gp ep ht hS hB b0 b1 b2 c0 d0 f0 g0
 go_enter Tryz.func69,Tryz.ntmps69
 go_wp2_with fail
 generalize hW0:World.alloc _ _=W0
 have HB0:=hidB (w:=w) hW0 (by go_grown)
 have XP:Hid (Cel W0 w.heap.size (.slice p1 n1 c1) (.slice q1 m1 e1)):=celW hW0 (by simp [go_sem])
 clear hW0
 have b1:=cell_low HC.out.1 HB0.out
 have c0:=cell_low HC.out.2.1 HB0.out
 have c1_:=cell_low HC.out.2.2 HB0.out
 obtain ⟨x0,x1,_,_⟩:=XP.out
 have kb:=cell_lt b1
 have kc:=cell_lt c0
 have kx:=cell_lt x0
 refine relE [⟨8,20,TupP W0.heap.size A.1 A.2 0⟩,⟨9,11,TupP W0.heap.size A.1 A.2 0⟩,⟨10,21,OwnT W0.heap.size A.1 A.2⟩,⟨12,7,NewC W0.heap.size⟩] 13 39 (by kernel_rfl) rfl rfl 11 _ rfl (by decide) rfl (by kernel_rfl) (by kernel_rfl) (fun _ _ _ _ h=>h) (by rfl) ?_ ?_
 ·intro e he v W W' h hb
  simp only [List.mem_cons,List.not_mem_nil,or_false] at he
  rcases he with rfl|rfl|rfl|rfl
  ·exact TupP.up h hb
  ·exact TupP.up h hb
  ·exact OwnT.up h hb
  ·exact NewC.up h hb
 apply Exists.intro
 refine ⟨?yl1,?wk1,?pk1,?rest1⟩
 case wk1=>
  intro x
  simp only [List.take_succ_cons,List.take_zero]
  iterate 8
   refine relQuiet rfl rfl ?_
   apply Exists.intro
   refine ⟨fun F hF hf K hK=>?_,?_⟩
   ·have hFc:=hF.cell
    have hFf:=hF.frozen
    go_big_quiet_op
    first|exact hK|(apply Exists.intro;refine ⟨fun _=>?_,?_⟩;(· fail);exact hK)
   (try simp only [Act.put,List.setIfInBounds_toArray,List.set_cons_zero,List.set_cons_succ])
  refine relTold rfl rfl ?_ ?_
  ·intro F hF hf d
   have hFc:=hF.cell
   have hFf:=hF.frozen
   simp [yieldsR,yieldsUpon,go_sem]
   refine (cA.out (F d) (bstep HB0.out (hF.below d))).mono ?_
   rintro e' w8 ⟨v8,rfl,h8,hb8⟩
   exact ⟨_,rfl,⟨v8,rfl,(h8.low (hF.below d).size).own⟩,hb8⟩
  (try simp only [Act.put,List.setIfInBounds_toArray,List.set_cons_zero,List.set_cons_succ])
  refine relTold rfl rfl ?_ ?_
  ·intro F hF hf d
   have hFc:=hF.cell
   have hFf:=hF.frozen
   have h9:=hf _ List.mem_cons_self (by rfl) d
   simp [yieldsR,yieldsUpon,go_sem]
   exact ⟨h9,Below.refl _ _⟩
  (try simp only [Act.put,List.setIfInBounds_toArray,List.set_cons_zero,List.set_cons_succ])
  refine relTold rfl rfl ?_ ?_
  ·intro F hF hf d
   have hFc:=hF.cell
   have hFf:=hF.frozen
   have h9:=hf _ (List.mem_cons_of_mem _ List.mem_cons_self) (by rfl) d
   obtain ⟨u9,e9,o9⟩:=h9
   simp only [] at e9
   simp [yieldsR,yieldsUpon,go_sem,e9]
   exact ⟨o9,Below.refl _ _⟩
  (try simp only [Act.put,List.setIfInBounds_toArray,List.set_cons_zero,List.set_cons_succ])
  refine relQuiet rfl rfl ?_
  apply Exists.intro
  refine ⟨fun F hF hf K hK=>?_,?_⟩
  ·have hFc:=hF.cell
   have hFf:=hF.frozen
   have h9:=hf _ (List.mem_cons_of_mem _ List.mem_cons_self) (by rfl)
   obtain ⟨u9,e9,_⟩:=h9 W0
   simp only [] at e9
   go_big_quiet_op
   first|exact hK|(apply Exists.intro;refine ⟨fun _=>?_,?_⟩;(· fail);exact hK)
  (try simp only [Act.put,List.setIfInBounds_toArray,List.set_cons_zero,List.set_cons_succ])
  refine relTold rfl rfl ?_ ?_
  ·intro F hF hf d
   have hFc:=hF.cell
   have hFf:=hF.frozen
   simp [yieldsR,yieldsUpon,go_sem]
   exact ⟨⟨(F d).heap.size,rfl,by show ((F d).heap.push _)[(F d).heap.size]?=_;simp,(hF.below d).size⟩,up_alloc _ _⟩
  (try simp only [Act.put,List.setIfInBounds_toArray,List.set_cons_zero,List.set_cons_succ])
  refine relEnd ?_
  exact rfl
 case pk1=>
  intro x
  simp only [putsK,List.foldl_cons,List.foldl_nil,Act.put,List.setIfInBounds_toArray,List.set_cons_zero,List.set_cons_succ]
 case yl1=>
  intro x hx
  obtain ⟨W9,u9,e9,_⟩:=hx _ (List.mem_cons_of_mem _ List.mem_cons_self) (by rfl)
  simp only [] at e9
  refine ⟨.int .i64 0,fun t ht=>?_,.inl ⟨by rfl,fun w=>?_⟩⟩
  ·cases ht
   rfl
  ·simp [execOp,Act.eval,e9,go_sem]
 intro z1 xs hBz1 hf
 simp only [List.drop_succ_cons,List.drop_zero]
 obtain ⟨pa,na,ca,pb,nb,cb,ev,o1,o2⟩:=hf _ (List.mem_cons_of_mem _ (List.mem_cons_of_mem _ List.mem_cons_self))
 obtain ⟨g6,eb,hb1,hb2⟩:=hf _ (List.mem_cons_of_mem _ (List.mem_cons_of_mem _ (List.mem_cons_of_mem _ List.mem_cons_self)))
 simp only [] at ev eb
 obtain ⟨x8,e8⟩:∃ q,xs 8=q:=⟨_,rfl⟩
 obtain ⟨x9,e9⟩:∃ q,xs 9=q:=⟨_,rfl⟩
 simp only [ev,eb,e8,e9]
 have f1:=o1.off_type hb1 (by decide)
 have f2:=o2.off_type hb1 (by decide)
 have hS1:Below W0.heap.size W0 (set2 z1 g6 (.slice pa na ca) (.slice pb nb cb)):=below_set2 hBz1 g6 hb2 _ _
 have hSw:SwC (set2 z1 g6 (.slice pa na ca) (.slice pb nb cb)) B sb tb gb vb N l gv:=(HS.out.1.up HB0.out).up hS1
 have q1:OwnK .i64 3 (set2 z1 g6 (.slice pa na ca) (.slice pb nb cb)) B (.slice pa na ca) A.1:=(o1.stay (Stay.set2 _ _ _) f1).low (by have:=HB0.out.size;have:=HS.out.2;omega)
 have q2:OwnK .i64 23 (set2 z1 g6 (.slice pa na ca) (.slice pb nb cb)) B (.slice pb nb cb) A.2:=(o2.stay (Stay.set2 _ _ _) f2).low (by have:=HB0.out.size;have:=HS.out.2;omega)
 have hBw:Below w.heap.size w (set2 z1 g6 (.slice pa na ca) (.slice pb nb cb)):=bstep HB0.out hS1
 have hC6:Cel (set2 z1 g6 (.slice pa na ca) (.slice pb nb cb)) g6 (.slice pa na ca) (.slice pb nb cb):=(new_cel hb1).set _ _
 have HF:Hid ((SwC (set2 z1 g6 (.slice pa na ca) (.slice pb nb cb)) B sb tb gb vb N l gv∧OwnK .i64 3 (set2 z1 g6 (.slice pa na ca) (.slice pb nb cb)) B (.slice pa na ca) A.1∧OwnK .i64 23 (set2 z1 g6 (.slice pa na ca) (.slice pb nb cb)) B (.slice pb nb cb) A.2)∧Below w.heap.size w (set2 z1 g6 (.slice pa na ca) (.slice pb nb cb))∧Cel (set2 z1 g6 (.slice pa na ca) (.slice pb nb cb)) g6 (.slice pa na ca) (.slice pb nb cb)):=⟨⟨hSw,q1,q2⟩,hBw,hC6⟩
 obtain ⟨y0,y1,y2,y3⟩:=new_cel hb1
 have cz:=cell_lt y0
 clear hf ev eb e8 e9 f1 f2 o1 o2 cA b1 c0 c1_ x0 x1 kb kc kx hS1 hSw q1 q2 hBw hC6 hBz1 hb1 hb2 HC XP HB0
 go_wp2_with fail
 obtain ⟨W1,eW1⟩:∃ W1,(set2 z1 g6 (.slice pa na ca) (.slice pb nb cb))=W1:=⟨_,rfl⟩
 rw [show ((z1.setCell ⟨g6,0,none⟩ (.slice pa na ca)).setCell ⟨g6,1,none⟩ (.slice pb nb cb))=W1 from eW1]
 rw [eW1] at HF
 clear eW1 y0 y1 y2 y3 cz
 obtain ⟨y0,y1,_,_⟩:=HF.out.2.2
 have cz:=cell_lt y0
 obtain ⟨b0,b1,b2⟩:=HF.out.1.1.tape
 have kb:=cell_lt b1
 obtain ⟨xs9,hx9,hk9⟩:=HF.out.1.1.hg
 have hl9:=hk9.1
 have hN9:=HF.out.1.1.ll
 obtain ⟨va,i0,i1⟩:∃ va,W1.cell? ⟨gb,j*2,none⟩=some va∧W1.frozen? ⟨gb,j*2,none⟩=false:=⟨_,box_cell hx9 (by rw [List.getElem?_toArray];exact List.getElem?_eq_getElem (by omega))⟩
 obtain ⟨vc,i2,i3⟩:∃ va,W1.cell? ⟨gb,j*2+1,none⟩=some va∧W1.frozen? ⟨gb,j*2+1,none⟩=false:=⟨_,box_cell hx9 (by rw [List.getElem?_toArray];exact List.getElem?_eq_getElem (by omega))⟩
 obtain ⟨v0,v1⟩:=HF.out.1.1.flag hj
 have kg:=cell_lt i0
 have kv:=cell_lt v0
 have hne:gb≠vb:=kind_ne hx9 HF.out.1.1.hv (by decide)
 have hne2:sb≠gb:=kind_ne HF.out.1.1.hs hx9 (by decide)
 have hne3:sb≠vb:=kind_ne HF.out.1.1.hs HF.out.1.1.hv (by decide)
 have HZ:Hid (SwC (((W1.setCell ⟨gb,j*2,none⟩ (.slice pa na ca)).setCell ⟨gb,j*2+1,none⟩ (.slice pb nb cb)).setCell ⟨vb,j,none⟩ (.bool true)) B sb tb gb vb N (l.set j A) (gv.set j true)∧Below B w (((W1.setCell ⟨gb,j*2,none⟩ (.slice pa na ca)).setCell ⟨gb,j*2+1,none⟩ (.slice pb nb cb)).setCell ⟨vb,j,none⟩ (.bool true))∧But2 gb vb w (((W1.setCell ⟨gb,j*2,none⟩ (.slice pa na ca)).setCell ⟨gb,j*2+1,none⟩ (.slice pb nb cb)).setCell ⟨vb,j,none⟩ (.bool true))):=by
  have h:=(HF.out.1.1.set hj HF.out.1.2.1 HF.out.1.2.2).mark j
  have bs:=HF.out.1.1.bs
  exact ⟨h,(((HF.out.2.1.mono HS.out.2).setCell (p:=⟨gb,j*2,none⟩) bs.2.1 _).setCell (p:=⟨gb,j*2+1,none⟩) bs.2.1 _).setCell (p:=⟨vb,j,none⟩) bs.2.2 _,((((But2.of HF.out.2.1).set (.inl rfl)).set (.inl rfl)).set (.inr rfl))⟩
 clear hx9 hk9 hl9 hN9
 go_region
 generalize hZ:World.drew _=Z
 have HZ2:Hid (SwC Z B sb tb gb vb N (l.set j A) (gv.set j true)∧Below B w Z∧But2 gb vb w Z):=by
  have d:∀ {U:World},U.drew=Z→Below U.heap.size U Z:=fun h=>by rw [← h];exact below_drew1 (Below.refl _ _)
  exact ⟨HZ.out.1.up (d hZ),HZ.out.2.1.trans ((d hZ).mono (Nat.le_trans HS.out.2 (by have:=HF.out.2.1.size;simpa using this))),HZ.out.2.2.up (d hZ)⟩
 clear hZ HZ HF
 go_wp2
 exact bodyPost_ret (v:=.int .i64 0) (by simp [results,Tryz.results69,go_sem]) rfl ⟨rfl,HZ2.out⟩
end Go.Proofs.YtjlofobnmjompaaGreatDoor.Wd
