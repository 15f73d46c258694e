/- The code's losses: Square, Size, Hinge.  -/
import Derived.Test.YtjlofobnmjompaaGreatDoorP37
import Derived.Test.YtjlofobnmjompaaGreatDoorP38
set_option linter.unusedVariables false
set_option linter.unusedSimpArgs false
set_option maxHeartbeats 16000000
set_option maxRecDepth 16000
namespace Go.Proofs.YtjlofobnmjompaaGreatDoor.Wd
open Go.RowKit Fx
theorem j_a (B I:Nat) (ns:List Nd) (hG:NodesG ns) (hl:ns.length<=512) (o:Int) (p:Option Addr) (n c:Nat) (y:List Int) (hy:RI y) (w:World) (V:TapC w B I ns) (af:Hid (∀ W,Below B w W->Tz W)) (h:KeptL B w (.slice p n c) y):
  Calls Tryz.prog 42 #[.pointer (some ⟨I,0,none⟩),.int .i64 o,.slice p n c] w fun e w'=>e = .returned (.tuple #[.int .i64 (loR (e_W ns o y) ns (sqS (ns.length:Int) o y)),.int .i64 (loE (e_W ns o y) ns (sqS (ns.length:Int) o y))])/\TapC w' B I (loN (e_W ns o y) ns (sqS (ns.length:Int) o y))/\Below B w w'/\Only SC w w'/\Spar2 I w w':=by
 haveI:Nonempty World:=⟨w⟩
 have HZ:Hid (B<=w.heap.size):=by
  obtain ⟨hb,v,xs,hv,_⟩:=V;exact Nat.le_trans hb (Nat.le_of_lt (a_i hv))
 have cf:=i_f B I ns hG o p n c y w V h.nums;have HT:Hid (TapC w B I ns/\NodesG ns/\ns.length<=512):=⟨V,hG,hl⟩
 by_cases he:e_W ns o y=0
 case neg=>
  rw [show loR (e_W ns o y) ns (sqS (ns.length:Int) o y)=0 from if_neg he,show loE (e_W ns o y) ns (sqS (ns.length:Int) o y)=e_W ns o y from if_neg he,show loN (e_W ns o y) ns (sqS (ns.length:Int) o y)=ns from if_neg he];obtain ⟨E,eE⟩:∃ E,e_W ns o y=E:=⟨_,rfl⟩
  rw [eE] at cf he ⊢;have ak:(E != 0)=true:=by simpa using he
  clear eE he h V hG af hy;go_enter Tryz.func42,Tryz.ntmps42;go_wp2_with fail
  refine cf.mono ?_;rintro e O ⟨rfl,D⟩;have HF:Hid (TapC O B I ns/\Below B w O/\Only SC w O/\Spar2 I w O):=⟨HT.out.1.up D,D.mono HZ.out,Only.of D,Spar2.of D⟩
  clear D cf;go_wp2;go_ret2;exact ⟨rfl,HF.out⟩
 have H:(0<=o/\o < (ns.length:Int))/\y.length=(ndN ns o).X.length:=by
  by_cases h':(0<=o/\o < (ns.length:Int))/\y.length=(ndN ns o).X.length
  ·exact h'
  ·exact absurd ((if_neg h').symm.trans he) (by decide)
 have aj:y.length<=4096:=by
  have:=(hG.at H.1.1 H.1.2).1;rw [H.2,this.2];exact this.1.2.2
 rw [he] at cf ⊢;rw [show loR 0 ns (sqS (ns.length:Int) o y)=lyR ns (sqS (ns.length:Int) o y) from rfl,show loE 0 ns (sqS (ns.length:Int) o y)=lyE ns (sqS (ns.length:Int) o y) from rfl,show loN 0 ns (sqS (ns.length:Int) o y)=lyM ns (sqS (ns.length:Int) o y) from rfl];obtain ⟨_,_,_,e4,HX⟩:=h.nums.lst;cases e4;have ah:=HX.out.1;have HY:Hid (RI y/\y.length=n/\KeptL B w (.slice p n c) y):=⟨hy,ah,h⟩
 obtain ⟨N,eN⟩:∃ N:Int,(ns.length:Int)=N:=⟨_,rfl⟩
 have hN:0<=N/\N<=512:=by omega
 have hO:0<=o/\o < N:=by omega
 have ac:Hid (∀ W,Below w.heap.size w W->Calls Tryz.prog 40 #[.pointer (some ⟨I,0,none⟩)] W fun e w'=>e = .returned (.int .i64 N)/\w'=W):=fun W hW=>by
  rw [<- eN];exact d_D B I ns W (V.up hW)
 rw [eN];have hn:n<=4096:=by omega
 have HS:Hid (∀ i,i < (sqS N o y).length->StpOk (stA (sqS N o y) i)):=fun i hi=>by
  have h0:InR 0:=by unfold InR;omega
  match i,hi with
  | 0,_=>exact e_4 hy aj
  | 1,_=>exact c_E (by omega) (by unfold InR;omega) (by unfold InR;omega) h0
  | 2,_=>exact c_E (by omega) (by unfold InR;omega) (by unfold InR;omega) (by unfold InR;omega)
  | 3,_=>exact c_E (by omega) (by unfold InR;omega) h0 h0
 have am:(n:Int)<=4096:=by omega
 obtain ⟨R,eR⟩:∃ R,lyR ns (sqS N o y)=R:=⟨_,rfl⟩
 obtain ⟨E,eE⟩:∃ R,lyE ns (sqS N o y)=R:=⟨_,rfl⟩
 obtain ⟨NS,L⟩:∃ R,lyM ns (sqS N o y)=R:=⟨_,rfl⟩
 have J:Hid (lyR ns (sqS N o y)=R/\lyE ns (sqS N o y)=E/\lyM ns (sqS N o y)=NS):=⟨eR,eE,L⟩
 rw [eR,eE,L];clear he H aj HX ah h hy V hG hl eN eR eE L;go_enter Tryz.func42,Tryz.ntmps42;go_wp2_with fail
 refine cf.mono ?_;rintro e O ⟨rfl,D⟩;have ae:Hid (Below w.heap.size w O):=D;clear D cf;go_wp2_with fail
 refine (ac.out O ae.out).mono ?_;rintro e w2 ⟨rfl,rfl⟩;clear ac;go_wp2_with fail
 refine (e_G p n c w2 hn).mono ?_;rintro e w3 ⟨g3,rfl,h3,ad⟩;have H3:Hid (OwnK .i64 3 w3 w2.heap.size (.slice (some ⟨g3,0,none⟩) 1 1) [(n:Int)]/\Below w.heap.size w w3):=⟨h3,a_c ae.out ad⟩
 clear h3 ad;go_wp2_with fail
 generalize hK:World.alloc _ _=K;have M:Below w3.heap.size w3 K:=by rw [<- hK];exact a_b w3 _
 have hL:K.heap[w3.heap.size]?=some (.cells [.int .i64 1,.int .i64 0,.int .i64 0,.int .i64 0,.slice (some ⟨g3,0,none⟩) 1 1,.slice p n c,.int .i64 3,.int .i64 o,.int .i64 N,.int .i64 0,.slice none 0 0,.slice none 0 0,.int .i64 4,.int .i64 (N+1),.int .i64 (N+1),.int .i64 0,.slice none 0 0,.slice none 0 0,.int .i64 10,.int .i64 (N+2),.int .i64 0,.int .i64 0,.slice none 0 0,.slice none 0 0].toArray 136 (0,0)):=by rw [<- hK];exact heap_alloc_new _ _
 have hb:Below w.heap.size w K:=a_c H3.out.2 M;have U:Below B w K:=hb.mono HZ.out
 have cl:=h_i B I ns HT.out.2.1 (sqS N o y) HS.out HT.out.2.2 w3.heap.size 4 _ rfl (by omega) K (HT.out.1.up hb) (show Hid _ from fun W hW=>af.out W (U.trans hW)) hL (fun i hi=>by
  match i,hi with
  | 0,_=>exact ⟨_,_,_,_,_,_,rfl,rfl,rfl,rfl,rfl,rfl,by show KeptL _ _ _ [(y.length:Int)];rw [HY.out.2.1];exact (H3.out.1.up M).keptL (by decide),HY.out.2.2.up U (Only.of hb)⟩
  | 1,_=>exact ⟨_,_,_,_,_,_,rfl,rfl,rfl,rfl,rfl,rfl,KeptL.nil _ _,KeptL.nil _ _⟩
  | 2,_=>exact ⟨_,_,_,_,_,_,rfl,rfl,rfl,rfl,rfl,rfl,KeptL.nil _ _,KeptL.nil _ _⟩
  | 3,_=>exact ⟨_,_,_,_,_,_,rfl,rfl,rfl,rfl,rfl,rfl,KeptL.nil _ _,KeptL.nil _ _⟩)
 have HK:Hid (Below w.heap.size w K):=hb;rw [J.out.1,J.out.2.1,J.out.2.2] at cl;clear hK M hL hb U HS J;refine cl.mono ?_;rintro e w5 ⟨rfl,aa,ab,ai,ag⟩;have HF:Hid (TapC w5 B I NS/\Below B w w5/\Only SC w w5/\Spar2 I w w5):=⟨aa,(HK.out.mono HZ.out).trans ab,(Only.of HK.out).trans ai,Spar2.trans (Spar2.of HK.out) ag HK.out.size⟩
 clear aa ab ai ag cl;go_wp2;go_ret2;exact ⟨rfl,HF.out⟩
theorem n_j (B I:Nat) (ns:List Nd) (hG:NodesG ns) (hl:ns.length<=512) (o:Int) (p:Option Addr) (n c:Nat) (y:List Int) (hy:RI y) (w:World) (V:TapC w B I ns) (af:Hid (∀ W,Below B w W->Tz W)) (h:KeptL B w (.slice p n c) y):
  Calls Tryz.prog 43 #[.pointer (some ⟨I,0,none⟩),.int .i64 o,.slice p n c] w fun e w'=>e = .returned (.tuple #[.int .i64 (loR (e_W ns o y) ns (szS (ns.length:Int) o y)),.int .i64 (loE (e_W ns o y) ns (szS (ns.length:Int) o y))])/\TapC w' B I (loN (e_W ns o y) ns (szS (ns.length:Int) o y))/\Below B w w'/\Only SC w w'/\Spar2 I w w':=by
 haveI:Nonempty World:=⟨w⟩
 have HZ:Hid (B<=w.heap.size):=by
  obtain ⟨hb,v,xs,hv,_⟩:=V;exact Nat.le_trans hb (Nat.le_of_lt (a_i hv))
 have cf:=i_f B I ns hG o p n c y w V h.nums;have HT:Hid (TapC w B I ns/\NodesG ns/\ns.length<=512):=⟨V,hG,hl⟩
 by_cases he:e_W ns o y=0
 case neg=>
  rw [show loR (e_W ns o y) ns (szS (ns.length:Int) o y)=0 from if_neg he,show loE (e_W ns o y) ns (szS (ns.length:Int) o y)=e_W ns o y from if_neg he,show loN (e_W ns o y) ns (szS (ns.length:Int) o y)=ns from if_neg he];obtain ⟨E,eE⟩:∃ E,e_W ns o y=E:=⟨_,rfl⟩
  rw [eE] at cf he ⊢;have ak:(E != 0)=true:=by simpa using he
  clear eE he h V hG af hy;go_enter Tryz.func43,Tryz.ntmps43;go_wp2_with fail
  refine cf.mono ?_;rintro e O ⟨rfl,D⟩;have HF:Hid (TapC O B I ns/\Below B w O/\Only SC w O/\Spar2 I w O):=⟨HT.out.1.up D,D.mono HZ.out,Only.of D,Spar2.of D⟩
  clear D cf;go_wp2;go_ret2;exact ⟨rfl,HF.out⟩
 have H:(0<=o/\o < (ns.length:Int))/\y.length=(ndN ns o).X.length:=by
  by_cases h':(0<=o/\o < (ns.length:Int))/\y.length=(ndN ns o).X.length
  ·exact h'
  ·exact absurd ((if_neg h').symm.trans he) (by decide)
 have aj:y.length<=4096:=by
  have:=(hG.at H.1.1 H.1.2).1;rw [H.2,this.2];exact this.1.2.2
 rw [he] at cf ⊢;rw [show loR 0 ns (szS (ns.length:Int) o y)=lyR ns (szS (ns.length:Int) o y) from rfl,show loE 0 ns (szS (ns.length:Int) o y)=lyE ns (szS (ns.length:Int) o y) from rfl,show loN 0 ns (szS (ns.length:Int) o y)=lyM ns (szS (ns.length:Int) o y) from rfl];obtain ⟨_,_,_,e4,HX⟩:=h.nums.lst;cases e4;have ah:=HX.out.1;have HY:Hid (RI y/\y.length=n/\KeptL B w (.slice p n c) y):=⟨hy,ah,h⟩
 obtain ⟨N,eN⟩:∃ N:Int,(ns.length:Int)=N:=⟨_,rfl⟩
 have hN:0<=N/\N<=512:=by omega
 have hO:0<=o/\o < N:=by omega
 have ac:Hid (∀ W,Below w.heap.size w W->Calls Tryz.prog 40 #[.pointer (some ⟨I,0,none⟩)] W fun e w'=>e = .returned (.int .i64 N)/\w'=W):=fun W hW=>by
  rw [<- eN];exact d_D B I ns W (V.up hW)
 rw [eN];have hn:n<=4096:=by omega
 have HS:Hid (∀ i,i < (szS N o y).length->StpOk (stA (szS N o y) i)):=fun i hi=>by
  have h0:InR 0:=by unfold InR;omega
  match i,hi with
  | 0,_=>exact e_4 hy aj
  | 1,_=>exact c_E (by omega) (by unfold InR;omega) (by unfold InR;omega) h0
  | 2,_=>exact c_E (by omega) (by unfold InR;omega) (by unfold InR;omega) (by unfold InR;omega)
  | 3,_=>exact c_E (by omega) (by unfold InR;omega) h0 h0
 have am:(n:Int)<=4096:=by omega
 obtain ⟨R,eR⟩:∃ R,lyR ns (szS N o y)=R:=⟨_,rfl⟩
 obtain ⟨E,eE⟩:∃ R,lyE ns (szS N o y)=R:=⟨_,rfl⟩
 obtain ⟨NS,L⟩:∃ R,lyM ns (szS N o y)=R:=⟨_,rfl⟩
 have J:Hid (lyR ns (szS N o y)=R/\lyE ns (szS N o y)=E/\lyM ns (szS N o y)=NS):=⟨eR,eE,L⟩
 rw [eR,eE,L];clear he H aj HX ah h hy V hG hl eN eR eE L;go_enter Tryz.func43,Tryz.ntmps43;go_wp2_with fail
 refine cf.mono ?_;rintro e O ⟨rfl,D⟩;have ae:Hid (Below w.heap.size w O):=D;clear D cf;go_wp2_with fail
 refine (ac.out O ae.out).mono ?_;rintro e w2 ⟨rfl,rfl⟩;clear ac;go_wp2_with fail
 refine (e_G p n c w2 hn).mono ?_;rintro e w3 ⟨g3,rfl,h3,ad⟩;have H3:Hid (OwnK .i64 3 w3 w2.heap.size (.slice (some ⟨g3,0,none⟩) 1 1) [(n:Int)]/\Below w.heap.size w w3):=⟨h3,a_c ae.out ad⟩
 clear h3 ad;go_wp2_with fail
 generalize hK:World.alloc _ _=K;have M:Below w3.heap.size w3 K:=by rw [<- hK];exact a_b w3 _
 have hL:K.heap[w3.heap.size]?=some (.cells [.int .i64 1,.int .i64 0,.int .i64 0,.int .i64 0,.slice (some ⟨g3,0,none⟩) 1 1,.slice p n c,.int .i64 3,.int .i64 o,.int .i64 N,.int .i64 0,.slice none 0 0,.slice none 0 0,.int .i64 11,.int .i64 (N+1),.int .i64 0,.int .i64 4,.slice none 0 0,.slice none 0 0,.int .i64 10,.int .i64 (N+2),.int .i64 0,.int .i64 0,.slice none 0 0,.slice none 0 0].toArray 136 (0,0)):=by rw [<- hK];exact heap_alloc_new _ _
 have hb:Below w.heap.size w K:=a_c H3.out.2 M;have U:Below B w K:=hb.mono HZ.out
 have cl:=h_i B I ns HT.out.2.1 (szS N o y) HS.out HT.out.2.2 w3.heap.size 4 _ rfl (by omega) K (HT.out.1.up hb) (show Hid _ from fun W hW=>af.out W (U.trans hW)) hL (fun i hi=>by
  match i,hi with
  | 0,_=>exact ⟨_,_,_,_,_,_,rfl,rfl,rfl,rfl,rfl,rfl,by show KeptL _ _ _ [(y.length:Int)];rw [HY.out.2.1];exact (H3.out.1.up M).keptL (by decide),HY.out.2.2.up U (Only.of hb)⟩
  | 1,_=>exact ⟨_,_,_,_,_,_,rfl,rfl,rfl,rfl,rfl,rfl,KeptL.nil _ _,KeptL.nil _ _⟩
  | 2,_=>exact ⟨_,_,_,_,_,_,rfl,rfl,rfl,rfl,rfl,rfl,KeptL.nil _ _,KeptL.nil _ _⟩
  | 3,_=>exact ⟨_,_,_,_,_,_,rfl,rfl,rfl,rfl,rfl,rfl,KeptL.nil _ _,KeptL.nil _ _⟩)
 have HK:Hid (Below w.heap.size w K):=hb;rw [J.out.1,J.out.2.1,J.out.2.2] at cl;clear hK M hL hb U HS J;refine cl.mono ?_;rintro e w5 ⟨rfl,aa,ab,ai,ag⟩;have HF:Hid (TapC w5 B I NS/\Below B w w5/\Only SC w w5/\Spar2 I w w5):=⟨aa,(HK.out.mono HZ.out).trans ab,(Only.of HK.out).trans ai,Spar2.trans (Spar2.of HK.out) ag HK.out.size⟩
 clear aa ab ai ag cl;go_wp2;go_ret2;exact ⟨rfl,HF.out⟩
theorem p_y {m:Nat} {a c t:Int} (E:InR a) (H:InR t):RI (k_9 m a c t):=fun y D=>by
 rcases List.mem_or_eq_of_mem_set D with h|h
 ·rw [(List.mem_replicate.1 h).2];exact E
 ·rw [h];exact H
theorem d_G (m:Nat) (a c t:Int):(k_9 m a c t).length=m:=by simp [k_9]
theorem k_1 (B L:Nat) (ns:List Nd) (hG:NodesG ns) (hl:ns.length<=512) (o cl:Int) (w:World) (hT:TapC w B L ns) (ah:Hid (∀ W,Below B w W->Tz W)):
  Calls Tryz.prog 44 #[.pointer (some ⟨L,0,none⟩),.int .i64 o,.int .i64 cl] w fun e w'=>e = .returned (.tuple #[.int .i64 (loR (i_K ns o cl) ns (hgS (ns.length:Int) o (m_x ns o cl) cl)),.int .i64 (loE (i_K ns o cl) ns (hgS (ns.length:Int) o (m_x ns o cl) cl))])/\TapC w' B L (loN (i_K ns o cl) ns (hgS (ns.length:Int) o (m_x ns o cl) cl))/\Below B w w'/\Only SC w w'/\Spar2 L w w':=by
 haveI:Nonempty World:=⟨w⟩
 have HZ:Hid (B<=w.heap.size):=by
  obtain ⟨hb,v,xs,hv,_⟩:=hT;exact Nat.le_trans hb (Nat.le_of_lt (a_i hv))
 have V:=o_Y B L ns hG o cl w hT;have HT:Hid (TapC w B L ns/\NodesG ns/\ns.length<=512):=⟨hT,hG,hl⟩
 by_cases he:i_K ns o cl=0
 case neg=>
  have e0:∀ n,loR (i_K ns o cl) ns (hgS (ns.length:Int) o n cl)=0:=fun n=>if_neg he;have e1:∀ n,loE (i_K ns o cl) ns (hgS (ns.length:Int) o n cl)=i_K ns o cl:=fun n=>if_neg he;have e2:∀ n,loN (i_K ns o cl) ns (hgS (ns.length:Int) o n cl)=ns:=fun n=>if_neg he;rw [e0,e1,e2];have e3:m_x ns o cl=0:=if_neg he;rw [e3] at V;obtain ⟨E,eE⟩:∃ E,i_K ns o cl=E:=⟨_,rfl⟩
  rw [eE] at V he ⊢;have ar:(E != 0)=true:=by simpa using he
  clear eE he hT hG ah e0 e1 e2 e3;go_enter Tryz.func44,Tryz.ntmps44;go_wp2_with fail
  refine V.mono ?_;rintro e w1 ⟨rfl,I⟩;have HF:Hid (TapC w1 B L ns/\Below B w w1/\Only SC w w1/\Spar2 L w w1):=⟨HT.out.1.up I,I.mono HZ.out,Only.of I,Spar2.of I⟩
  clear I V;go_wp2;go_ret2;exact ⟨rfl,HF.out⟩
 have ho:0<=o/\o < (ns.length:Int):=by
  by_cases h':0<=o/\o < (ns.length:Int)
  ·exact h'
  ·exact absurd ((if_neg h').symm.trans he) (by decide)
 have ap:0<=cl/\cl < ((ndN ns o).X.length:Int):=by
  by_cases h':(ndN ns o).D.length=1/\0<=cl/\cl < ((ndN ns o).X.length:Int)
  ·exact h'.2
  ·exact absurd (((if_pos ho).trans (if_neg h')).symm.trans he) (by decide)
 have ao:(ndN ns o).X.length<=4096:=by
  have:=(hG.at ho.1 ho.2).1;rw [this.2];exact this.1.2.2
 have en:m_x ns o cl=(ndN ns o).X.length:=if_pos he;rw [he] at V ⊢;obtain ⟨n,ae⟩:∃ n,m_x ns o cl=n:=⟨_,rfl⟩
 rw [ae] at V ⊢;rw [ae] at en;have hn:1<=n/\n<=4096:=by omega
 obtain ⟨H,rfl⟩:∃ H:Nat,cl=(H:Int):=⟨cl.toNat,by omega⟩
 have ai:H < n:=by omega
 rw [show loR 0 ns (hgS (ns.length:Int) o n (H:Int))=lyR ns (hgS (ns.length:Int) o n (H:Int)) from rfl,show loE 0 ns (hgS (ns.length:Int) o n (H:Int))=lyE ns (hgS (ns.length:Int) o n (H:Int)) from rfl,show loN 0 ns (hgS (ns.length:Int) o n (H:Int))=lyM ns (hgS (ns.length:Int) o n (H:Int)) from rfl];obtain ⟨N,eN⟩:∃ N:Int,(ns.length:Int)=N:=⟨_,rfl⟩
 have hN:0<=N/\N<=512:=by omega
 have hO:0<=o/\o < N:=by omega
 have ac:Hid (∀ W,Below w.heap.size w W->Calls Tryz.prog 40 #[.pointer (some ⟨L,0,none⟩)] W fun e w'=>e = .returned (.int .i64 N)/\w'=W):=fun W hW=>by
  rw [<- eN];exact d_D B L ns W (hT.up hW)
 rw [eN]
 have HS:Hid (∀ i,i < (hgS N o n (H:Int)).length->StpOk (stA (hgS N o n (H:Int)) i)):=fun i hi=>by
  match i,hi with
  | 0,_=>exact e_4 (p_y (by unfold InR;omega) (by unfold InR;omega)) (by rw [d_G];exact hn.2)
  | 1,_=>exact e_4 (p_y (by unfold InR;omega) (by unfold InR;omega)) (by rw [d_G];exact hn.2)
  | 2,_=>exact c_E (by omega) (by unfold InR;omega) (by unfold InR;omega) (by unfold InR;omega)
  | 3,_=>exact c_E (by omega) (by unfold InR;omega) (by unfold InR;omega) (by unfold InR;omega)
  | 4,_=>exact c_E (by omega) (by unfold InR;omega) (by unfold InR;omega) (by unfold InR;omega)
  | 5,_=>exact c_E (by omega) (by unfold InR;omega) (by unfold InR;omega) (by unfold InR;omega)
  | 6,_=>exact c_E (by omega) (by unfold InR;omega) (by unfold InR;omega) (by unfold InR;omega)
  | 7,_=>exact c_E (by omega) (by unfold InR;omega) (by unfold InR;omega) (by unfold InR;omega)
  | 8,_=>exact c_E (by omega) (by unfold InR;omega) (by unfold InR;omega) (by unfold InR;omega)
 have au:(n:Int)<=4096/\1<=(n:Int):=by omega
 have aq:(H:Int) < (n:Int):=by omega
 obtain ⟨R,eR⟩:∃ R,lyR ns (hgS N o n (H:Int))=R:=⟨_,rfl⟩
 obtain ⟨E,eE⟩:∃ R,lyE ns (hgS N o n (H:Int))=R:=⟨_,rfl⟩
 obtain ⟨NS,aa⟩:∃ R,lyM ns (hgS N o n (H:Int))=R:=⟨_,rfl⟩
 have M:Hid (lyR ns (hgS N o n (H:Int))=R/\lyE ns (hgS N o n (H:Int))=E/\lyM ns (hgS N o n (H:Int))=NS):=⟨eR,eE,aa⟩
 rw [eR,eE,aa];clear he ho ap ao en ae hT hG hl eN eR eE aa;go_enter Tryz.func44,Tryz.ntmps44;go_wp2_with fail
 refine V.mono ?_;rintro e w1 ⟨rfl,I⟩;have ad:Hid (Below w.heap.size w w1):=I;clear I V;go_wp2_with fail
 refine (ac.out w1 ad.out).mono ?_;rintro e w2 ⟨rfl,rfl⟩;go_wp2_with fail
 refine (ac.out w2 ad.out).mono ?_;rintro e ab ⟨rfl,rfl⟩;clear ac;go_wp2_with fail
 refine (f_S n hn 0 (-4294967296) H ai ab).mono ?_;rintro e w3 ⟨g3,f3,c3,rfl,h3,k3,ag⟩;have H3:Hid (OwnK .i64 3 w3 ab.heap.size (.slice (some ⟨g3,0,none⟩) 1 1) [(n:Int)]/\OwnK .i64 23 w3 ab.heap.size (.slice (some ⟨f3,0,none⟩) n c3) (k_9 n 0 (H:Int) (-4294967296))/\Below w.heap.size w w3):=⟨h3,k3,a_c ad.out ag⟩
 clear h3 k3 ag;go_wp2_with fail
 refine (f_S n hn 4294967296 0 H ai w3).mono ?_;rintro e U ⟨g4,f4,c4,rfl,h4,k4,am⟩;have H4:Hid (OwnK .i64 3 U w3.heap.size (.slice (some ⟨g4,0,none⟩) 1 1) [(n:Int)]/\OwnK .i64 23 U w3.heap.size (.slice (some ⟨f4,0,none⟩) n c4) (k_9 n 4294967296 (H:Int) 0)/\Below w3.heap.size w3 U):=⟨h4,k4,am⟩
 clear h4 k4 am;go_wp2_with fail
 generalize hK:World.alloc _ _=K;have J:Below U.heap.size U K:=by rw [<- hK];exact a_b U _
 have hL:K.heap[U.heap.size]?=some (.cells [.int .i64 1,.int .i64 0,.int .i64 0,.int .i64 0,.slice (some ⟨g3,0,none⟩) 1 1,.slice (some ⟨f3,0,none⟩) n c3,.int .i64 1,.int .i64 0,.int .i64 0,.int .i64 0,.slice (some ⟨g4,0,none⟩) 1 1,.slice (some ⟨f4,0,none⟩) n c4,.int .i64 4,.int .i64 o,.int .i64 N,.int .i64 0,.slice none 0 0,.slice none 0 0,.int .i64 9,.int .i64 (N+2),.int .i64 0,.int .i64 0,.slice none 0 0,.slice none 0 0,.int .i64 2,.int .i64 o,.int .i64 (N+3),.int .i64 0,.slice none 0 0,.slice none 0 0,.int .i64 2,.int .i64 (N+4),.int .i64 (N+1),.int .i64 0,.slice none 0 0,.slice none 0 0,.int .i64 11,.int .i64 (N+5),.int .i64 0,.int .i64 1,.slice none 0 0,.slice none 0 0,.int .i64 4,.int .i64 (N+6),.int .i64 (N+1),.int .i64 0,.slice none 0 0,.slice none 0 0,.int .i64 9,.int .i64 (N+7),.int .i64 0,.int .i64 0,.slice none 0 0,.slice none 0 0].toArray 136 (0,0)):=by rw [<- hK];exact heap_alloc_new _ _
 have O:Below w3.heap.size w3 K:=a_c H4.out.2.2 J;have hb:Below w.heap.size w K:=a_c H3.out.2.2 O;have an:Below B w K:=hb.mono HZ.out
 have cl:=h_i B L ns HT.out.2.1 (hgS N o n (H:Int)) HS.out HT.out.2.2 U.heap.size 9 _ rfl (by omega) K (HT.out.1.up hb) (show Hid _ from fun W hW=>ah.out W (an.trans hW)) hL (fun i hi=>by
  match i,hi with
  | 0,_=>exact ⟨_,_,_,_,_,_,rfl,rfl,rfl,rfl,rfl,rfl,by show KeptL _ _ _ [((k_9 n 0 (H:Int) (-4294967296)).length:Int)];rw [d_G];exact (H3.out.1.up O).keptL (by decide),(H3.out.2.1.up O).keptL (by decide)⟩
  | 1,_=>exact ⟨_,_,_,_,_,_,rfl,rfl,rfl,rfl,rfl,rfl,by show KeptL _ _ _ [((k_9 n 4294967296 (H:Int) 0).length:Int)];rw [d_G];exact (H4.out.1.up J).keptL (by decide),(H4.out.2.1.up J).keptL (by decide)⟩
  | 2,_=>exact ⟨_,_,_,_,_,_,rfl,rfl,rfl,rfl,rfl,rfl,KeptL.nil _ _,KeptL.nil _ _⟩
  | 3,_=>exact ⟨_,_,_,_,_,_,rfl,rfl,rfl,rfl,rfl,rfl,KeptL.nil _ _,KeptL.nil _ _⟩
  | 4,_=>exact ⟨_,_,_,_,_,_,rfl,rfl,rfl,rfl,rfl,rfl,KeptL.nil _ _,KeptL.nil _ _⟩
  | 5,_=>exact ⟨_,_,_,_,_,_,rfl,rfl,rfl,rfl,rfl,rfl,KeptL.nil _ _,KeptL.nil _ _⟩
  | 6,_=>exact ⟨_,_,_,_,_,_,rfl,rfl,rfl,rfl,rfl,rfl,KeptL.nil _ _,KeptL.nil _ _⟩
  | 7,_=>exact ⟨_,_,_,_,_,_,rfl,rfl,rfl,rfl,rfl,rfl,KeptL.nil _ _,KeptL.nil _ _⟩
  | 8,_=>exact ⟨_,_,_,_,_,_,rfl,rfl,rfl,rfl,rfl,rfl,KeptL.nil _ _,KeptL.nil _ _⟩)
 have HK:Hid (Below w.heap.size w K):=hb;rw [M.out.1,M.out.2.1,M.out.2.2] at cl;clear hK J hL hb an O HS M;refine cl.mono ?_;rintro e w5 ⟨rfl,af,J,ak,aj⟩;have HF:Hid (TapC w5 B L NS/\Below B w w5/\Only SC w w5/\Spar2 L w w5):=⟨af,(HK.out.mono HZ.out).trans J,(Only.of HK.out).trans ak,Spar2.trans (Spar2.of HK.out) aj HK.out.size⟩
 clear af J ak aj cl;go_wp2;go_ret2;exact ⟨rfl,HF.out⟩
/-- A row of tensors in a block, cell by cell. -/
def TsK (W:World) (B:Nat) (l:List Ten) (xs:List Value):Prop:=xs.length=l.length*2/\∀ i t,l[i]?=some t->∃ s u,xs[i*2]?=some s/\xs[i*2+1]?=some u/\OwnK .i64 3 W B s t.1/\OwnK .i64 23 W B u t.2
theorem TsK.only {S:List TypeId} {W W':World} {B:Nat} {l:List Ten} {D:List Value} (h:TsK W B l D) (E:Only S W W') (M:3∉S) (I:23∉S):TsK W' B l D:=⟨h.1,fun i t R=>by
 obtain ⟨s,u,H,J,L,O⟩:=h.2 i t R;exact ⟨s,u,H,J,L.only E M,O.only E I⟩⟩
theorem TsK.set {W:World} {B:Nat} {l:List Ten} {E:List Value} (h:TsK W B l E) {j:Nat} (R:j < l.length) {s u:Value} {t:Ten} (hs:OwnK .i64 3 W B s t.1) (U:OwnK .i64 23 W B u t.2):TsK W B (l.set j t) ((E.set (j*2) s).set (j*2+1) u):=by
 have hl:=h.1;refine ⟨by simp [h.1],fun i I D=>?_⟩;rw [List.getElem?_set] at D;by_cases e:j=i
 ·subst e;rw [if_pos rfl,if_pos R] at D;cases D;refine ⟨s,u,?_,?_,hs,U⟩
  ·rw [List.getElem?_set,if_neg (by omega),List.getElem?_set,if_pos rfl,if_pos (by omega)]
  ·rw [List.getElem?_set,if_pos rfl,if_pos (by rw [List.length_set];omega)]
 ·rw [if_neg e] at D;obtain ⟨L,H,J,M,O,V⟩:=h.2 i I D;refine ⟨L,H,?_,?_,O,V⟩
  ·rw [List.getElem?_set,if_neg (by omega),List.getElem?_set,if_neg (by omega)];exact J
  ·rw [List.getElem?_set,if_neg (by omega),List.getElem?_set,if_neg (by omega)];exact M
/-- A sweep on its way: the tape, the gradients so far, which nodes were given anything. -/
structure SwC (W:World) (B sb tb gb vb N:Nat) (l:List Ten) (gv:List Bool):Prop where
 hs:W.heap[sb]?=some (.cells #[.pointer (some ⟨tb,0,none⟩),.slice (some ⟨gb,0,none⟩) N N,.slice (some ⟨vb,0,none⟩) N N] 107 (0,0))
 hg:∃ xs,W.heap[gb]?=some (.cells xs.toArray 64 (0,0))/\TsK W B l xs
 hv:W.heap[vb]?=some (.cells (gv.map Value.bool).toArray 4 (0,0))
 bs:B<=sb/\B<=gb/\B<=vb
 ll:l.length=N
 lv:gv.length=N
theorem SwC.up {W W':World} {B J I H E N:Nat} {l:List Ten} {M:List Bool} (h:SwC W B J I H E N l M) (D:Below W.heap.size W W'):SwC W' B J I H E N l M:=by
 obtain ⟨O,L,R⟩:=h.hg;exact ⟨(D.block _ (a_i h.hs)).trans h.hs,⟨O,(D.block _ (a_i L)).trans L,R.only (S:=[]) (Only.of D) (by simp) (by simp)⟩,(D.block _ (a_i h.hv)).trans h.hv,h.bs,h.ll,h.lv⟩
theorem a_Z {W:World} {b i:Nat} {D:Array Value} {e:TypeId} {v:Value} (h:W.heap[b]?=some (.cells D e (0,0))) (E:D[i]?=some v):W.cell? ⟨b,i,none⟩=some v/\W.frozen? ⟨b,i,none⟩=false:=by
 constructor
 ·unfold World.cell?;simpa [h] using E
 ·unfold World.frozen?;simp [h]
theorem d_n {W:World} {b I:Nat} {L D:Array Value} {e J:TypeId} (h:W.heap[b]?=some (.cells L e (0,0))) (H:W.heap[I]?=some (.cells D J (0,0))) (E:e≠J):b≠I:=fun M=>by
 subst M;rw [h] at H;cases H;exact E rfl
theorem SwC.tape {W:World} {B D I H E N:Nat} {l:List Ten} {J:List Bool} (h:SwC W B D I H E N l J):W.cell? ⟨D,0,none⟩=some (.pointer (some ⟨I,0,none⟩))/\W.cell? ⟨D,1,none⟩=some (.slice (some ⟨H,0,none⟩) N N)/\W.cell? ⟨D,2,none⟩=some (.slice (some ⟨E,0,none⟩) N N):=
 ⟨(a_Z h.hs rfl).1,(a_Z h.hs rfl).1,(a_Z h.hs rfl).1⟩
theorem SwC.read {W:World} {B sb J D H N:Nat} {l:List Ten} {R:List Bool} (h:SwC W B sb J D H N l R) {i:Nat} {t:Ten} (V:l[i]?=some t):
  ∃ s u,(W.cell? ⟨D,i*2,none⟩=some s/\W.frozen? ⟨D,i*2,none⟩=false)/\(W.cell? ⟨D,i*2+1,none⟩=some u/\W.frozen? ⟨D,i*2+1,none⟩=false)/\OwnK .i64 3 W B s t.1/\OwnK .i64 23 W B u t.2:=by
 obtain ⟨xs,E,I⟩:=h.hg;obtain ⟨s,u,L,M,O,U⟩:=I.2 i t V;exact ⟨s,u,a_Z E (by simpa using L),a_Z E (by simpa using M),O,U⟩
theorem SwC.flag {W:World} {B J I H D N:Nat} {l:List Ten} {E:List Bool} (h:SwC W B J I H D N l E) {i:Nat} (L:i < N):W.cell? ⟨D,i,none⟩=some (.bool (E.getD i false))/\W.frozen? ⟨D,i,none⟩=false:=by
 refine a_Z h.hv ?_;have:=h.lv;rw [List.getElem?_toArray,List.getElem?_map,List.getD_eq_getElem?_getD,List.getElem?_eq_getElem (by omega)];rfl
theorem SwC.set {W:World} {B I L D H N:Nat} {l:List Ten} {M:List Bool} (h:SwC W B I L D H N l M) {j:Nat} (hj:j < N) {s u:Value} {t:Ten} (hs:OwnK .i64 3 W B s t.1) (hu:OwnK .i64 23 W B u t.2):SwC ((W.setCell ⟨D,j*2,none⟩ s).setCell ⟨D,j*2+1,none⟩ u) B I L D H N (l.set j t) M:=by
 obtain ⟨V,E,hk⟩:=h.hg;have R:I≠D:=d_n h.hs E (by decide);have O:H≠D:=d_n h.hv E (by decide);have U:=Only.set (S:=[64]) (o:=j*2) (x:=s) E (by simp);have J:=a_n (o:=j*2) (x:=s) E;have o2:=Only.set (S:=[64]) (o:=j*2+1) (x:=u) J (by simp);have x2:=a_n (o:=j*2+1) (x:=u) J;refine ⟨?_,⟨(V.set (j*2) s).set (j*2+1) u,?_,(hk.set (by rw [h.ll];exact hj) hs hu).only (U.trans o2) (by decide) (by decide)⟩,?_,h.bs,by rw [List.length_set];exact h.ll,h.lv⟩
 ·rw [a_U _ _ _ _ _ R,a_U _ _ _ _ _ R];exact h.hs
 ·rw [x2];simp
 ·rw [a_U _ _ _ _ _ O,a_U _ _ _ _ _ O];exact h.hv
theorem SwC.mark {W:World} {B H I E D N:Nat} {l:List Ten} {L:List Bool} (h:SwC W B H I E D N l L) (j:Nat):SwC (W.setCell ⟨D,j,none⟩ (.bool true)) B H I E D N l (L.set j true):=by
 obtain ⟨O,J,R⟩:=h.hg;have V:H≠D:=d_n h.hs h.hv (by decide);have U:E≠D:=d_n J h.hv (by decide);have M:=Only.set (S:=[4]) (o:=j) (x:=.bool true) h.hv (by simp);refine ⟨?_,⟨O,?_,R.only M (by decide) (by decide)⟩,?_,h.bs,h.ll,by rw [List.length_set];exact h.lv⟩
 ·rw [a_U _ _ _ _ _ V];exact h.hs
 ·rw [a_U _ _ _ _ _ U];exact J
 ·rw [a_n h.hv];simp [List.map_set]
/-- All that stood stands but two blocks. -/
def But2 (x y:Nat) (W W':World):Prop:=W.heap.size<=W'.heap.size/\∀ k,k < W.heap.size->k≠x->k≠y->W'.heap[k]?=W.heap[k]?
theorem But2.of {x y:Nat} {W W':World} (h:Below W.heap.size W W'):But2 x y W W':=⟨h.size,fun k D _ _=>h.block k D⟩
theorem But2.set {x y:Nat} {W W':World} (h:But2 x y W W') {b o:Nat} {v:Value} (hb:b=x∨b=y):But2 x y W (W'.setCell ⟨b,o,none⟩ v):=⟨by simpa using h.1,fun k E D H=>by
 rw [a_U _ _ _ _ _ (by rcases hb with rfl|rfl <;> assumption)];exact h.2 k E D H⟩
theorem But2.up {x y:Nat} {W W' D:World} (h:But2 x y W W') (H:Below W'.heap.size W' D):But2 x y W D:=⟨Nat.le_trans h.1 H.size,fun k E J I=>(H.block k (Nat.lt_of_lt_of_le E h.1)).trans (h.2 k E J I)⟩
theorem But2.only {x y:Nat} {W W':World} (h:But2 x y W W') {J D:Array Value} {e I:TypeId} (O:W.heap[x]?=some (.cells J e (0,0))) (M:W.heap[y]?=some (.cells D I (0,0))):Only [e,I] W W':=⟨h.1,fun k L H=>h.2 k L (fun E=>by subst E;exact H _ _ _ O (by simp)) (fun E=>by subst E;exact H _ _ _ M (by simp))⟩
theorem q_6 (n:Int) (D:n < 0) (L:Nat) (H J:Option Addr) (R M E I:Nat) (w:World):
  Calls Tryz.prog 69 #[.pointer (some ⟨L,0,none⟩),.int .i64 n,.agg #[.slice H R M,.slice J E I]] w fun e O=>e = .returned (.int .i64 0)/\Below w.heap.size w O:=by
 have U:decide (n < 0)=true:=decide_eq_true D;clear D;go_enter Tryz.func69,Tryz.ntmps69;go_wp2;exact bodyPost_ret (v:=.int .i64 0) (by simp [results,Tryz.results69,go_sem]) rfl ⟨rfl,a_b _ _⟩
theorem o_Z (B sb tb D vb N:Nat) (l:List Ten) (gv:List Bool) (j:Nat) (hj:j < N) (t p:Ten) (ht:l[j]?=some t) (gt:b_d t) (gp:b_d p) (ep:p.1=t.1) (p1 q1:Option Addr) (n1 c1 m1 e1:Nat) (w:World) (hS:SwC w B sb tb D vb N l gv) (hB:B<=w.heap.size) (h1:Nums .i64 w (.slice p1 n1 c1) p.1) (h2:Nums .i64 w (.slice q1 m1 e1) p.2):
  Calls Tryz.prog 69 #[.pointer (some ⟨sb,0,none⟩),.int .i64 (j:Int),.agg #[.slice p1 n1 c1,.slice q1 m1 e1]] w fun e w'=>e = .returned (.int .i64 0)/\SwC w' B sb tb D vb N (l.set j (q_A t p)) (gv.set j true)/\Below B w w'/\But2 D vb w w':=by
 obtain ⟨A,eA⟩:∃ A,q_A t p=A:=⟨_,rfl⟩
 have hE:b_C t.1 t.2 p.1 p.2=0:=by
  obtain ⟨a,ga,ea⟩:=b_m gt.1.1;obtain ⟨f,jj⟩:=h_A a;obtain ⟨k1,k2⟩:=b_u ga ga f (by rw [jj];exact ga);exact (if_pos ⟨gt.1,gp.1⟩).trans (by rw [ep,ea];exact k2)
 obtain ⟨s,u,⟨c0,f0⟩,⟨d0,g0⟩,hs,hu⟩:=hS.read ht;obtain ⟨p3,n3,c3,rfl⟩:=hs.form_;obtain ⟨q3,m3,e3,rfl⟩:=hu.form_
 have cA:Hid (∀ W,Below w.heap.size w W->Calls Tryz.prog 90 #[.agg #[.slice p3 n3 c3,.slice q3 m3 e3],.agg #[.slice p1 n1 c1,.slice q1 m1 e1]] W fun e w'=>∃ v',e = .returned (.tuple #[v',.int .i64 0])/\TRes w' W.heap.size v' A.1 A.2/\Below W.heap.size W w'):=fun W hW=>by
  have:=g_O p3 q3 p1 q1 n3 c3 m3 e3 n1 c1 m1 e1 t.1 t.2 p.1 p.2 gt.2.1 gt.2.2 gp.2.1 gp.2.2 W (hs.nums.up hW) (hu.nums.up hW) (h1.up hW) (h2.up hW);rw [hE] at this;rw [<- eA];exact this
 rw [eA];obtain ⟨b0,b1,b2⟩:=hS.tape;have HS:Hid (SwC w B sb tb D vb N l gv/\B<=w.heap.size):=⟨hS,hB⟩
 have HC:Hid ((w.cell? ⟨sb,1,none⟩=some (.slice (some ⟨D,0,none⟩) N N))/\w.cell? ⟨D,j*2,none⟩=some (.slice p3 n3 c3)/\w.cell? ⟨D,j*2+1,none⟩=some (.slice q3 m3 e3)):=⟨b1,c0,d0⟩
 have aw:(j:Int) < (N:Int):=by omega
 have d1:decide ((j:Int) < 0)=false:=decide_eq_false (by omega);haveI:Nonempty World:=⟨w⟩
 clear eA hE hs hu h1 h2 gt gp ep ht hS hB b0 b1 b2 c0 d0 f0 g0;go_enter Tryz.func69,Tryz.ntmps69;go_wp2_with fail
 generalize ad:World.alloc _ _=W0;have O:=b_W (w:=w) ad (by go_grown);have XP:Hid (Cel W0 w.heap.size (.slice p1 n1 c1) (.slice q1 m1 e1)):=a_F ad (by simp [go_sem]);clear ad;have b1:=a_d HC.out.1 O.out;have c0:=a_d HC.out.2.1 O.out;have ap:=a_d HC.out.2.2 O.out;obtain ⟨x0,x1,_,_⟩:=XP.out;have kb:=a_a b1;have kc:=a_a c0;have kx:=a_a x0;refine l_A [⟨8,20,TupP W0.heap.size A.1 A.2 0⟩,⟨9,11,TupP W0.heap.size A.1 A.2 0⟩,⟨10,21,OwnT W0.heap.size A.1 A.2⟩,⟨12,7,NewC W0.heap.size⟩] 13 39 (by kernel_rfl) rfl rfl 11 _ rfl (by decide) rfl (by kernel_rfl) (by kernel_rfl) (fun _ _ _ _ h=>h) (by rfl) ?_ ?_
 ·intro e he v W W' h hb;simp only [List.mem_cons,List.not_mem_nil,or_false] at he;rcases he with rfl|rfl|rfl|rfl
  ·exact TupP.up h hb
  ·exact TupP.up h hb
  ·exact OwnT.up h hb
  ·exact NewC.up h hb
 apply Exists.intro;refine ⟨?yl1,?wk1,?pk1,?rest1⟩
 case wk1=>
  intro x;simp only [List.take_succ_cons,List.take_zero]
  iterate 8
   refine a_l rfl rfl ?_;apply Exists.intro;refine ⟨fun F hF hf K hK=>?_,?_⟩
   ·have hFc:=hF.cell;have hFf:=hF.frozen
    go_big_quiet_op
    first|exact hK|(apply Exists.intro;refine ⟨fun _=>?_,?_⟩;(· fail);exact hK)
   (try simp only [Act.put,sA_,sB_,sC_])
  refine a_o rfl rfl ?_ ?_
  ·intro F hF hf d;have hFc:=hF.cell;have hFf:=hF.frozen;simp [a_j,a_f,go_sem];refine (cA.out (F d) (a_c O.out (hF.below d))).mono ?_;rintro e' w8 ⟨v8,rfl,h8,aq⟩;exact ⟨_,rfl,⟨v8,rfl,(h8.low (hF.below d).size).own⟩,aq⟩
  (try simp only [Act.put,sA_,sB_,sC_])
  refine a_o rfl rfl ?_ ?_
  ·intro F hF hf d;have hFc:=hF.cell;have hFf:=hF.frozen;have h9:=hf _ List.mem_cons_self (by rfl) d;simp [a_j,a_f,go_sem];exact ⟨h9,Below.refl _ _⟩
  (try simp only [Act.put,sA_,sB_,sC_])
  refine a_o rfl rfl ?_ ?_
  ·intro F hF hf d;have hFc:=hF.cell;have hFf:=hF.frozen;have h9:=hf _ (List.mem_cons_of_mem _ List.mem_cons_self) (by rfl) d;obtain ⟨u9,e9,o9⟩:=h9;simp only [] at e9;simp [a_j,a_f,go_sem,e9];exact ⟨o9,Below.refl _ _⟩
  (try simp only [Act.put,sA_,sB_,sC_])
  refine a_l rfl rfl ?_;apply Exists.intro;refine ⟨fun F hF hf K hK=>?_,?_⟩
  ·have hFc:=hF.cell;have hFf:=hF.frozen;have h9:=hf _ (List.mem_cons_of_mem _ List.mem_cons_self) (by rfl);obtain ⟨u9,e9,_⟩:=h9 W0;simp only [] at e9
   go_big_quiet_op
   first|exact hK|(apply Exists.intro;refine ⟨fun _=>?_,?_⟩;(· fail);exact hK)
  (try simp only [Act.put,sA_,sB_,sC_])
  refine a_o rfl rfl ?_ ?_
  ·intro F hF hf d;have hFc:=hF.cell;have hFf:=hF.frozen;simp [a_j,a_f,go_sem];exact ⟨⟨(F d).heap.size,rfl,by show ((F d).heap.push _)[(F d).heap.size]?=_;simp,(hF.below d).size⟩,a_b _ _⟩
  (try simp only [Act.put,sA_,sB_,sC_])
  refine b_a ?_;exact rfl
 case pk1=>
  intro x;simp only [b_k,List.foldl_cons,List.foldl_nil,Act.put,sA_,sB_,sC_]
 case yl1=>
  intro x hx;obtain ⟨W9,u9,e9,_⟩:=hx _ (List.mem_cons_of_mem _ List.mem_cons_self) (by rfl);simp only [] at e9;refine ⟨.int .i64 0,fun t ht=>?_,.inl ⟨by rfl,fun w=>?_⟩⟩
  ·cases ht;rfl
  ·simp [execOp,Act.eval,e9,go_sem]
 intro z1 xs ac hf;simp only [List.drop_succ_cons,List.drop_zero];obtain ⟨M,L,H,I,E,J,ev,o1,o2⟩:=hf _ (List.mem_cons_of_mem _ (List.mem_cons_of_mem _ List.mem_cons_self));obtain ⟨V,eb,aa,ai⟩:=hf _ (List.mem_cons_of_mem _ (List.mem_cons_of_mem _ (List.mem_cons_of_mem _ List.mem_cons_self)));simp only [] at ev eb;obtain ⟨x8,e8⟩:∃ q,xs 8=q:=⟨_,rfl⟩
 obtain ⟨x9,e9⟩:∃ q,xs 9=q:=⟨_,rfl⟩
 simp only [ev,eb,e8,e9];have f1:=o1.off_type aa (by decide);have f2:=o2.off_type aa (by decide);have af:Below W0.heap.size W0 (set2 z1 V (.slice M L H) (.slice I E J)):=a_8 ac V ai _ _;have ah:SwC (set2 z1 V (.slice M L H) (.slice I E J)) B sb tb D vb N l gv:=(HS.out.1.up O.out).up af;have q1:OwnK .i64 3 (set2 z1 V (.slice M L H) (.slice I E J)) B (.slice M L H) A.1:=(o1.stay (Stay.set2 _ _ _) f1).low (by have:=O.out.size;have:=HS.out.2;omega);have q2:OwnK .i64 23 (set2 z1 V (.slice M L H) (.slice I E J)) B (.slice I E J) A.2:=(o2.stay (Stay.set2 _ _ _) f2).low (by have:=O.out.size;have:=HS.out.2;omega);have ak:Below w.heap.size w (set2 z1 V (.slice M L H) (.slice I E J)):=a_c O.out af;have ag:Cel (set2 z1 V (.slice M L H) (.slice I E J)) V (.slice M L H) (.slice I E J):=(c_o aa).set _ _;have R:Hid ((SwC (set2 z1 V (.slice M L H) (.slice I E J)) B sb tb D vb N l gv/\OwnK .i64 3 (set2 z1 V (.slice M L H) (.slice I E J)) B (.slice M L H) A.1/\OwnK .i64 23 (set2 z1 V (.slice M L H) (.slice I E J)) B (.slice I E J) A.2)/\Below w.heap.size w (set2 z1 V (.slice M L H) (.slice I E J))/\Cel (set2 z1 V (.slice M L H) (.slice I E J)) V (.slice M L H) (.slice I E J)):=⟨⟨ah,q1,q2⟩,ak,ag⟩
 obtain ⟨y0,y1,y2,y3⟩:=c_o aa;have cz:=a_a y0;clear hf ev eb e8 e9 f1 f2 o1 o2 cA b1 c0 ap x0 x1 kb kc kx af ah q1 q2 ak ag ac aa ai HC XP O;go_wp2_with fail
 obtain ⟨W1,ae⟩:∃ W1,(set2 z1 V (.slice M L H) (.slice I E J))=W1:=⟨_,rfl⟩
 rw [show ((z1.setCell ⟨V,0,none⟩ (.slice M L H)).setCell ⟨V,1,none⟩ (.slice I E J))=W1 from ae];rw [ae] at R;clear ae y0 y1 y2 y3 cz;obtain ⟨y0,y1,_,_⟩:=R.out.2.2;have cz:=a_a y0;obtain ⟨b0,b1,b2⟩:=R.out.1.1.tape;have kb:=a_a b1;obtain ⟨ax,ab,aj⟩:=R.out.1.1.hg;have ao:=aj.1;have am:=R.out.1.1.ll;obtain ⟨va,i0,i1⟩:∃ va,W1.cell? ⟨D,j*2,none⟩=some va/\W1.frozen? ⟨D,j*2,none⟩=false:=⟨_,a_Z ab (by rw [List.getElem?_toArray];exact List.getElem?_eq_getElem (by omega))⟩
 obtain ⟨vc,i2,i3⟩:∃ va,W1.cell? ⟨D,j*2+1,none⟩=some va/\W1.frozen? ⟨D,j*2+1,none⟩=false:=⟨_,a_Z ab (by rw [List.getElem?_toArray];exact List.getElem?_eq_getElem (by omega))⟩
 obtain ⟨v0,v1⟩:=R.out.1.1.flag hj;have kg:=a_a i0;have kv:=a_a v0;have av:D≠vb:=d_n ab R.out.1.1.hv (by decide);have ar:sb≠D:=d_n R.out.1.1.hs ab (by decide);have au:sb≠vb:=d_n R.out.1.1.hs R.out.1.1.hv (by decide)
 have HZ:Hid (SwC (((W1.setCell ⟨D,j*2,none⟩ (.slice M L H)).setCell ⟨D,j*2+1,none⟩ (.slice I E J)).setCell ⟨vb,j,none⟩ (.bool true)) B sb tb D vb N (l.set j A) (gv.set j true)/\Below B w (((W1.setCell ⟨D,j*2,none⟩ (.slice M L H)).setCell ⟨D,j*2+1,none⟩ (.slice I E J)).setCell ⟨vb,j,none⟩ (.bool true))/\But2 D vb w (((W1.setCell ⟨D,j*2,none⟩ (.slice M L H)).setCell ⟨D,j*2+1,none⟩ (.slice I E J)).setCell ⟨vb,j,none⟩ (.bool true))):=by
  have h:=(R.out.1.1.set hj R.out.1.2.1 R.out.1.2.2).mark j;have bs:=R.out.1.1.bs;exact ⟨h,(((R.out.2.1.mono HS.out.2).setCell (p:=⟨D,j*2,none⟩) bs.2.1 _).setCell (p:=⟨D,j*2+1,none⟩) bs.2.1 _).setCell (p:=⟨vb,j,none⟩) bs.2.2 _,((((But2.of R.out.2.1).set (.inl rfl)).set (.inl rfl)).set (.inr rfl))⟩
 clear ab aj ao am;go_region;generalize hZ:World.drew _=Z
 have an:Hid (SwC Z B sb tb D vb N (l.set j A) (gv.set j true)/\Below B w Z/\But2 D vb w Z):=by
  have d:∀ {U:World},U.drew=Z->Below U.heap.size U Z:=fun h=>by rw [<- h];exact c_T (Below.refl _ _)
  exact ⟨HZ.out.1.up (d hZ),HZ.out.2.1.trans ((d hZ).mono (Nat.le_trans HS.out.2 (by have:=R.out.2.1.size;simpa using this))),HZ.out.2.2.up (d hZ)⟩
 clear hZ HZ R;go_wp2;exact bodyPost_ret (v:=.int .i64 0) (by simp [results,Tryz.results69,go_sem]) rfl ⟨rfl,an.out⟩
end Go.Proofs.YtjlofobnmjompaaGreatDoor.Wd
namespace Go.Proofs.YtjlofobnmjompaaGreatDoor.Wd
open Go.RowKit
/-- The block that a told value names: a pointer's; a row's; of several values the first's. -/
def l_b (v:Value):Option Nat:=match v with
 | .pointer (some a)=>some a.block
 | .slice (some a) _ _=>some a.block
 | .tuple xs=>match (xs[0]?:Option Value) with
  | some (Value.slice (some a) _ _)=>some a.block
  | _=>none
 | _=>none
end Go.Proofs.YtjlofobnmjompaaGreatDoor.Wd
