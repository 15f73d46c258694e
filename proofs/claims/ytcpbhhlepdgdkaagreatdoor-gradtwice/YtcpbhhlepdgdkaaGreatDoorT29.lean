/- The code's losses: Square, Size, Hinge.  -/
import Derived.Test.YtcpbhhlepdgdkaaGreatDoorT28
set_option linter.unusedVariables false
set_option linter.unusedSimpArgs false
set_option maxHeartbeats 16000000
set_option maxRecDepth 16000
namespace Go.Proofs.YtcpbhhlepdgdkaaGreatDoor.Wd
open Go.RowKit Fx
theorem j_l (B I:Nat) (ns:List Nd) (hG:NodesG ns) (hl:ns.length<=512) (o:Int) (p:Option Addr) (n c:Nat) (y:List Int) (hy:RI y) (w:World) (V:TapC w B I ns) (ae:Hid (∀ W,Below B w W->Tz W)) (h:KeptL B w (.slice p n c) y):
  Calls Tryz.prog 38 #[.pointer (some ⟨I,0,none⟩),.int .i64 o,.slice p n c] w fun e w'=>e = .returned (.tuple #[.int .i64 (loR (e_0 ns o y) ns (sqS (ns.length:Int) o y)),.int .i64 (loE (e_0 ns o y) ns (sqS (ns.length:Int) o y))])/\TapC w' B I (loN (e_0 ns o y) ns (sqS (ns.length:Int) o y))/\Below B w w'/\Only SC w w'/\Spar2 I w w':=by
 haveI:Nonempty World:=⟨w⟩
 have HZ:Hid (B<=w.heap.size):=by
  obtain ⟨hb,v,xs,hv,_⟩:=V;exact Nat.le_trans hb (Nat.le_of_lt (a_i hv))
 have cf:=i_p B I ns hG o p n c y w V h.nums;have HT:Hid (TapC w B I ns/\NodesG ns/\ns.length<=512):=⟨V,hG,hl⟩
 by_cases he:e_0 ns o y=0
 case neg=>
  rw [show loR (e_0 ns o y) ns (sqS (ns.length:Int) o y)=0 from if_neg he,show loE (e_0 ns o y) ns (sqS (ns.length:Int) o y)=e_0 ns o y from if_neg he,show loN (e_0 ns o y) ns (sqS (ns.length:Int) o y)=ns from if_neg he];obtain ⟨E,eE⟩:∃ E,e_0 ns o y=E:=⟨_,rfl⟩
  rw [eE] at cf he ⊢;have am:(E != 0)=true:=by simpa using he
  clear eE he h V hG ae hy;go_enter Tryz.func38,Tryz.ntmps38;go_wp2_with fail
  refine cf.mono ?_;rintro e O ⟨rfl,D⟩;have HF:Hid (TapC O B I ns/\Below B w O/\Only SC w O/\Spar2 I w O):=⟨HT.out.1.up D,D.mono HZ.out,Only.of D,Spar2.of D⟩
  clear D cf;go_wp2;go_ret2;exact ⟨rfl,HF.out⟩
 have H:(0<=o/\o < (ns.length:Int))/\y.length=(ndN ns o).X.length:=by
  by_cases h':(0<=o/\o < (ns.length:Int))/\y.length=(ndN ns o).X.length
  ·exact h'
  ·exact absurd ((if_neg h').symm.trans he) (by decide)
 have aj:y.length<=4096:=by
  have:=(hG.at H.1.1 H.1.2).1;rw [H.2,this.2];exact this.1.2.2
 rw [he] at cf ⊢;rw [show loR 0 ns (sqS (ns.length:Int) o y)=lyR ns (sqS (ns.length:Int) o y) from rfl,show loE 0 ns (sqS (ns.length:Int) o y)=lyE ns (sqS (ns.length:Int) o y) from rfl,show loN 0 ns (sqS (ns.length:Int) o y)=lyM ns (sqS (ns.length:Int) o y) from rfl];obtain ⟨_,_,_,e4,HX⟩:=h.nums.lst;cases e4;have ac:=HX.out.1;have HY:Hid (RI y/\y.length=n/\KeptL B w (.slice p n c) y):=⟨hy,ac,h⟩
 obtain ⟨N,eN⟩:∃ N:Int,(ns.length:Int)=N:=⟨_,rfl⟩
 have hN:0<=N/\N<=512:=by omega
 have hO:0<=o/\o < N:=by omega
 have ag:Hid (∀ W,Below w.heap.size w W->Calls Tryz.prog 36 #[.pointer (some ⟨I,0,none⟩)] W fun e w'=>e = .returned (.int .i64 N)/\w'=W):=fun W hW=>by
  rw [<- eN];exact d_G B I ns W (V.up hW)
 rw [eN];have hn:n<=4096:=by omega
 have HS:Hid (∀ i,i < (sqS N o y).length->StpOk (stA (sqS N o y) i)):=fun i hi=>by
  have h0:InR 0:=by unfold InR;omega
  match i,hi with
  | 0,_=>exact e_8 hy aj
  | 1,_=>exact c_G (by omega) (by unfold InR;omega) (by unfold InR;omega) h0
  | 2,_=>exact c_G (by omega) (by unfold InR;omega) (by unfold InR;omega) (by unfold InR;omega)
  | 3,_=>exact c_G (by omega) (by unfold InR;omega) h0 h0
 have ak:(n:Int)<=4096:=by omega
 obtain ⟨R,eR⟩:∃ R,lyR ns (sqS N o y)=R:=⟨_,rfl⟩
 obtain ⟨E,eE⟩:∃ R,lyE ns (sqS N o y)=R:=⟨_,rfl⟩
 obtain ⟨NS,U⟩:∃ R,lyM ns (sqS N o y)=R:=⟨_,rfl⟩
 have J:Hid (lyR ns (sqS N o y)=R/\lyE ns (sqS N o y)=E/\lyM ns (sqS N o y)=NS):=⟨eR,eE,U⟩
 rw [eR,eE,U];clear he H aj HX ac h hy V hG hl eN eR eE U;go_enter Tryz.func38,Tryz.ntmps38;go_wp2_with fail
 refine cf.mono ?_;rintro e O ⟨rfl,D⟩;have ah:Hid (Below w.heap.size w O):=D;clear D cf;go_wp2_with fail
 refine (ag.out O ah.out).mono ?_;rintro e w2 ⟨rfl,rfl⟩;clear ag;go_wp2_with fail
 refine (e_J p n c w2 hn).mono ?_;rintro e w3 ⟨g3,rfl,h3,ai⟩;have H3:Hid (OwnK .i64 3 w3 w2.heap.size (.slice (some ⟨g3,0,none⟩) 1 1) [(n:Int)]/\Below w.heap.size w w3):=⟨h3,a_c ah.out ai⟩
 clear h3 ai;go_wp2_with fail
 generalize hK:World.alloc _ _=K;have M:Below w3.heap.size w3 K:=by rw [<- hK];exact a_b w3 _
 have hL:K.heap[w3.heap.size]?=some (.cells [.int .i64 1,.int .i64 0,.int .i64 0,.int .i64 0,.slice (some ⟨g3,0,none⟩) 1 1,.slice p n c,.int .i64 3,.int .i64 o,.int .i64 N,.int .i64 0,.slice none 0 0,.slice none 0 0,.int .i64 4,.int .i64 (N+1),.int .i64 (N+1),.int .i64 0,.slice none 0 0,.slice none 0 0,.int .i64 10,.int .i64 (N+2),.int .i64 0,.int .i64 0,.slice none 0 0,.slice none 0 0].toArray 128 (0,0)):=by rw [<- hK];exact heap_alloc_new _ _
 have hb:Below w.heap.size w K:=a_c H3.out.2 M;have L:Below B w K:=hb.mono HZ.out
 have cl:=h_r B I ns HT.out.2.1 (sqS N o y) HS.out HT.out.2.2 w3.heap.size 4 _ rfl (by omega) K (HT.out.1.up hb) (show Hid _ from fun W hW=>ae.out W (L.trans hW)) hL (fun i hi=>by
  match i,hi with
  | 0,_=>exact ⟨_,_,_,_,_,_,rfl,rfl,rfl,rfl,rfl,rfl,by show KeptL _ _ _ [(y.length:Int)];rw [HY.out.2.1];exact (H3.out.1.up M).keptL (by decide),HY.out.2.2.up L (Only.of hb)⟩
  | 1,_=>exact ⟨_,_,_,_,_,_,rfl,rfl,rfl,rfl,rfl,rfl,KeptL.nil _ _,KeptL.nil _ _⟩
  | 2,_=>exact ⟨_,_,_,_,_,_,rfl,rfl,rfl,rfl,rfl,rfl,KeptL.nil _ _,KeptL.nil _ _⟩
  | 3,_=>exact ⟨_,_,_,_,_,_,rfl,rfl,rfl,rfl,rfl,rfl,KeptL.nil _ _,KeptL.nil _ _⟩)
 have HK:Hid (Below w.heap.size w K):=hb;rw [J.out.1,J.out.2.1,J.out.2.2] at cl;clear hK M hL hb L HS J;refine cl.mono ?_;rintro e w5 ⟨rfl,ab,aa,ad,af⟩;have HF:Hid (TapC w5 B I NS/\Below B w w5/\Only SC w w5/\Spar2 I w w5):=⟨ab,(HK.out.mono HZ.out).trans aa,(Only.of HK.out).trans ad,Spar2.trans (Spar2.of HK.out) af HK.out.size⟩
 clear ab aa ad af cl;go_wp2;go_ret2;exact ⟨rfl,HF.out⟩
theorem n_q (B I:Nat) (ns:List Nd) (hG:NodesG ns) (hl:ns.length<=512) (o:Int) (p:Option Addr) (n c:Nat) (y:List Int) (hy:RI y) (w:World) (V:TapC w B I ns) (ae:Hid (∀ W,Below B w W->Tz W)) (h:KeptL B w (.slice p n c) y):
  Calls Tryz.prog 39 #[.pointer (some ⟨I,0,none⟩),.int .i64 o,.slice p n c] w fun e w'=>e = .returned (.tuple #[.int .i64 (loR (e_0 ns o y) ns (szS (ns.length:Int) o y)),.int .i64 (loE (e_0 ns o y) ns (szS (ns.length:Int) o y))])/\TapC w' B I (loN (e_0 ns o y) ns (szS (ns.length:Int) o y))/\Below B w w'/\Only SC w w'/\Spar2 I w w':=by
 haveI:Nonempty World:=⟨w⟩
 have HZ:Hid (B<=w.heap.size):=by
  obtain ⟨hb,v,xs,hv,_⟩:=V;exact Nat.le_trans hb (Nat.le_of_lt (a_i hv))
 have cf:=i_p B I ns hG o p n c y w V h.nums;have HT:Hid (TapC w B I ns/\NodesG ns/\ns.length<=512):=⟨V,hG,hl⟩
 by_cases he:e_0 ns o y=0
 case neg=>
  rw [show loR (e_0 ns o y) ns (szS (ns.length:Int) o y)=0 from if_neg he,show loE (e_0 ns o y) ns (szS (ns.length:Int) o y)=e_0 ns o y from if_neg he,show loN (e_0 ns o y) ns (szS (ns.length:Int) o y)=ns from if_neg he];obtain ⟨E,eE⟩:∃ E,e_0 ns o y=E:=⟨_,rfl⟩
  rw [eE] at cf he ⊢;have am:(E != 0)=true:=by simpa using he
  clear eE he h V hG ae hy;go_enter Tryz.func39,Tryz.ntmps39;go_wp2_with fail
  refine cf.mono ?_;rintro e O ⟨rfl,D⟩;have HF:Hid (TapC O B I ns/\Below B w O/\Only SC w O/\Spar2 I w O):=⟨HT.out.1.up D,D.mono HZ.out,Only.of D,Spar2.of D⟩
  clear D cf;go_wp2;go_ret2;exact ⟨rfl,HF.out⟩
 have H:(0<=o/\o < (ns.length:Int))/\y.length=(ndN ns o).X.length:=by
  by_cases h':(0<=o/\o < (ns.length:Int))/\y.length=(ndN ns o).X.length
  ·exact h'
  ·exact absurd ((if_neg h').symm.trans he) (by decide)
 have aj:y.length<=4096:=by
  have:=(hG.at H.1.1 H.1.2).1;rw [H.2,this.2];exact this.1.2.2
 rw [he] at cf ⊢;rw [show loR 0 ns (szS (ns.length:Int) o y)=lyR ns (szS (ns.length:Int) o y) from rfl,show loE 0 ns (szS (ns.length:Int) o y)=lyE ns (szS (ns.length:Int) o y) from rfl,show loN 0 ns (szS (ns.length:Int) o y)=lyM ns (szS (ns.length:Int) o y) from rfl];obtain ⟨_,_,_,e4,HX⟩:=h.nums.lst;cases e4;have ac:=HX.out.1;have HY:Hid (RI y/\y.length=n/\KeptL B w (.slice p n c) y):=⟨hy,ac,h⟩
 obtain ⟨N,eN⟩:∃ N:Int,(ns.length:Int)=N:=⟨_,rfl⟩
 have hN:0<=N/\N<=512:=by omega
 have hO:0<=o/\o < N:=by omega
 have ag:Hid (∀ W,Below w.heap.size w W->Calls Tryz.prog 36 #[.pointer (some ⟨I,0,none⟩)] W fun e w'=>e = .returned (.int .i64 N)/\w'=W):=fun W hW=>by
  rw [<- eN];exact d_G B I ns W (V.up hW)
 rw [eN];have hn:n<=4096:=by omega
 have HS:Hid (∀ i,i < (szS N o y).length->StpOk (stA (szS N o y) i)):=fun i hi=>by
  have h0:InR 0:=by unfold InR;omega
  match i,hi with
  | 0,_=>exact e_8 hy aj
  | 1,_=>exact c_G (by omega) (by unfold InR;omega) (by unfold InR;omega) h0
  | 2,_=>exact c_G (by omega) (by unfold InR;omega) (by unfold InR;omega) (by unfold InR;omega)
  | 3,_=>exact c_G (by omega) (by unfold InR;omega) h0 h0
 have ak:(n:Int)<=4096:=by omega
 obtain ⟨R,eR⟩:∃ R,lyR ns (szS N o y)=R:=⟨_,rfl⟩
 obtain ⟨E,eE⟩:∃ R,lyE ns (szS N o y)=R:=⟨_,rfl⟩
 obtain ⟨NS,U⟩:∃ R,lyM ns (szS N o y)=R:=⟨_,rfl⟩
 have J:Hid (lyR ns (szS N o y)=R/\lyE ns (szS N o y)=E/\lyM ns (szS N o y)=NS):=⟨eR,eE,U⟩
 rw [eR,eE,U];clear he H aj HX ac h hy V hG hl eN eR eE U;go_enter Tryz.func39,Tryz.ntmps39;go_wp2_with fail
 refine cf.mono ?_;rintro e O ⟨rfl,D⟩;have ah:Hid (Below w.heap.size w O):=D;clear D cf;go_wp2_with fail
 refine (ag.out O ah.out).mono ?_;rintro e w2 ⟨rfl,rfl⟩;clear ag;go_wp2_with fail
 refine (e_J p n c w2 hn).mono ?_;rintro e w3 ⟨g3,rfl,h3,ai⟩;have H3:Hid (OwnK .i64 3 w3 w2.heap.size (.slice (some ⟨g3,0,none⟩) 1 1) [(n:Int)]/\Below w.heap.size w w3):=⟨h3,a_c ah.out ai⟩
 clear h3 ai;go_wp2_with fail
 generalize hK:World.alloc _ _=K;have M:Below w3.heap.size w3 K:=by rw [<- hK];exact a_b w3 _
 have hL:K.heap[w3.heap.size]?=some (.cells [.int .i64 1,.int .i64 0,.int .i64 0,.int .i64 0,.slice (some ⟨g3,0,none⟩) 1 1,.slice p n c,.int .i64 3,.int .i64 o,.int .i64 N,.int .i64 0,.slice none 0 0,.slice none 0 0,.int .i64 11,.int .i64 (N+1),.int .i64 0,.int .i64 4,.slice none 0 0,.slice none 0 0,.int .i64 10,.int .i64 (N+2),.int .i64 0,.int .i64 0,.slice none 0 0,.slice none 0 0].toArray 128 (0,0)):=by rw [<- hK];exact heap_alloc_new _ _
 have hb:Below w.heap.size w K:=a_c H3.out.2 M;have L:Below B w K:=hb.mono HZ.out
 have cl:=h_r B I ns HT.out.2.1 (szS N o y) HS.out HT.out.2.2 w3.heap.size 4 _ rfl (by omega) K (HT.out.1.up hb) (show Hid _ from fun W hW=>ae.out W (L.trans hW)) hL (fun i hi=>by
  match i,hi with
  | 0,_=>exact ⟨_,_,_,_,_,_,rfl,rfl,rfl,rfl,rfl,rfl,by show KeptL _ _ _ [(y.length:Int)];rw [HY.out.2.1];exact (H3.out.1.up M).keptL (by decide),HY.out.2.2.up L (Only.of hb)⟩
  | 1,_=>exact ⟨_,_,_,_,_,_,rfl,rfl,rfl,rfl,rfl,rfl,KeptL.nil _ _,KeptL.nil _ _⟩
  | 2,_=>exact ⟨_,_,_,_,_,_,rfl,rfl,rfl,rfl,rfl,rfl,KeptL.nil _ _,KeptL.nil _ _⟩
  | 3,_=>exact ⟨_,_,_,_,_,_,rfl,rfl,rfl,rfl,rfl,rfl,KeptL.nil _ _,KeptL.nil _ _⟩)
 have HK:Hid (Below w.heap.size w K):=hb;rw [J.out.1,J.out.2.1,J.out.2.2] at cl;clear hK M hL hb L HS J;refine cl.mono ?_;rintro e w5 ⟨rfl,ab,aa,ad,af⟩;have HF:Hid (TapC w5 B I NS/\Below B w w5/\Only SC w w5/\Spar2 I w w5):=⟨ab,(HK.out.mono HZ.out).trans aa,(Only.of HK.out).trans ad,Spar2.trans (Spar2.of HK.out) af HK.out.size⟩
 clear ab aa ad af cl;go_wp2;go_ret2;exact ⟨rfl,HF.out⟩
theorem p_K {m:Nat} {a c t:Int} (E:InR a) (D:InR t):RI (l_g m a c t):=fun y H=>by
 rcases List.mem_or_eq_of_mem_set H with h|h
 ·rw [(List.mem_replicate.1 h).2];exact E
 ·rw [h];exact D
theorem d_J (m:Nat) (a c t:Int):(l_g m a c t).length=m:=by simp [l_g]
theorem k_7 (B L:Nat) (ns:List Nd) (hG:NodesG ns) (hl:ns.length<=512) (o cl:Int) (w:World) (hT:TapC w B L ns) (ah:Hid (∀ W,Below B w W->Tz W)):
  Calls Tryz.prog 40 #[.pointer (some ⟨L,0,none⟩),.int .i64 o,.int .i64 cl] w fun e w'=>e = .returned (.tuple #[.int .i64 (loR (i_V ns o cl) ns (hgS (ns.length:Int) o (m_D ns o cl) cl)),.int .i64 (loE (i_V ns o cl) ns (hgS (ns.length:Int) o (m_D ns o cl) cl))])/\TapC w' B L (loN (i_V ns o cl) ns (hgS (ns.length:Int) o (m_D ns o cl) cl))/\Below B w w'/\Only SC w w'/\Spar2 L w w':=by
 haveI:Nonempty World:=⟨w⟩
 have HZ:Hid (B<=w.heap.size):=by
  obtain ⟨hb,v,xs,hv,_⟩:=hT;exact Nat.le_trans hb (Nat.le_of_lt (a_i hv))
 have U:=o_7 B L ns hG o cl w hT;have HT:Hid (TapC w B L ns/\NodesG ns/\ns.length<=512):=⟨hT,hG,hl⟩
 by_cases he:i_V ns o cl=0
 case neg=>
  have e0:∀ n,loR (i_V ns o cl) ns (hgS (ns.length:Int) o n cl)=0:=fun n=>if_neg he;have e1:∀ n,loE (i_V ns o cl) ns (hgS (ns.length:Int) o n cl)=i_V ns o cl:=fun n=>if_neg he;have e2:∀ n,loN (i_V ns o cl) ns (hgS (ns.length:Int) o n cl)=ns:=fun n=>if_neg he;rw [e0,e1,e2];have e3:m_D ns o cl=0:=if_neg he;rw [e3] at U;obtain ⟨E,eE⟩:∃ E,i_V ns o cl=E:=⟨_,rfl⟩
  rw [eE] at U he ⊢;have au:(E != 0)=true:=by simpa using he
  clear eE he hT hG ah e0 e1 e2 e3;go_enter Tryz.func40,Tryz.ntmps40;go_wp2_with fail
  refine U.mono ?_;rintro e w1 ⟨rfl,I⟩;have HF:Hid (TapC w1 B L ns/\Below B w w1/\Only SC w w1/\Spar2 L w w1):=⟨HT.out.1.up I,I.mono HZ.out,Only.of I,Spar2.of I⟩
  clear I U;go_wp2;go_ret2;exact ⟨rfl,HF.out⟩
 have ho:0<=o/\o < (ns.length:Int):=by
  by_cases h':0<=o/\o < (ns.length:Int)
  ·exact h'
  ·exact absurd ((if_neg h').symm.trans he) (by decide)
 have ao:0<=cl/\cl < ((ndN ns o).X.length:Int):=by
  by_cases h':(ndN ns o).D.length=1/\0<=cl/\cl < ((ndN ns o).X.length:Int)
  ·exact h'.2
  ·exact absurd (((if_pos ho).trans (if_neg h')).symm.trans he) (by decide)
 have ap:(ndN ns o).X.length<=4096:=by
  have:=(hG.at ho.1 ho.2).1;rw [this.2];exact this.1.2.2
 have en:m_D ns o cl=(ndN ns o).X.length:=if_pos he;rw [he] at U ⊢;obtain ⟨n,aa⟩:∃ n,m_D ns o cl=n:=⟨_,rfl⟩
 rw [aa] at U ⊢;rw [aa] at en;have hn:1<=n/\n<=4096:=by omega
 obtain ⟨H,rfl⟩:∃ H:Nat,cl=(H:Int):=⟨cl.toNat,by omega⟩
 have ak:H < n:=by omega
 rw [show loR 0 ns (hgS (ns.length:Int) o n (H:Int))=lyR ns (hgS (ns.length:Int) o n (H:Int)) from rfl,show loE 0 ns (hgS (ns.length:Int) o n (H:Int))=lyE ns (hgS (ns.length:Int) o n (H:Int)) from rfl,show loN 0 ns (hgS (ns.length:Int) o n (H:Int))=lyM ns (hgS (ns.length:Int) o n (H:Int)) from rfl];obtain ⟨N,eN⟩:∃ N:Int,(ns.length:Int)=N:=⟨_,rfl⟩
 have hN:0<=N/\N<=512:=by omega
 have hO:0<=o/\o < N:=by omega
 have ad:Hid (∀ W,Below w.heap.size w W->Calls Tryz.prog 36 #[.pointer (some ⟨L,0,none⟩)] W fun e w'=>e = .returned (.int .i64 N)/\w'=W):=fun W hW=>by
  rw [<- eN];exact d_G B L ns W (hT.up hW)
 rw [eN]
 have HS:Hid (∀ i,i < (hgS N o n (H:Int)).length->StpOk (stA (hgS N o n (H:Int)) i)):=fun i hi=>by
  match i,hi with
  | 0,_=>exact e_8 (p_K (by unfold InR;omega) (by unfold InR;omega)) (by rw [d_J];exact hn.2)
  | 1,_=>exact e_8 (p_K (by unfold InR;omega) (by unfold InR;omega)) (by rw [d_J];exact hn.2)
  | 2,_=>exact c_G (by omega) (by unfold InR;omega) (by unfold InR;omega) (by unfold InR;omega)
  | 3,_=>exact c_G (by omega) (by unfold InR;omega) (by unfold InR;omega) (by unfold InR;omega)
  | 4,_=>exact c_G (by omega) (by unfold InR;omega) (by unfold InR;omega) (by unfold InR;omega)
  | 5,_=>exact c_G (by omega) (by unfold InR;omega) (by unfold InR;omega) (by unfold InR;omega)
  | 6,_=>exact c_G (by omega) (by unfold InR;omega) (by unfold InR;omega) (by unfold InR;omega)
  | 7,_=>exact c_G (by omega) (by unfold InR;omega) (by unfold InR;omega) (by unfold InR;omega)
  | 8,_=>exact c_G (by omega) (by unfold InR;omega) (by unfold InR;omega) (by unfold InR;omega)
 have ar:(n:Int)<=4096/\1<=(n:Int):=by omega
 have aq:(H:Int) < (n:Int):=by omega
 obtain ⟨R,eR⟩:∃ R,lyR ns (hgS N o n (H:Int))=R:=⟨_,rfl⟩
 obtain ⟨E,eE⟩:∃ R,lyE ns (hgS N o n (H:Int))=R:=⟨_,rfl⟩
 obtain ⟨NS,ae⟩:∃ R,lyM ns (hgS N o n (H:Int))=R:=⟨_,rfl⟩
 have M:Hid (lyR ns (hgS N o n (H:Int))=R/\lyE ns (hgS N o n (H:Int))=E/\lyM ns (hgS N o n (H:Int))=NS):=⟨eR,eE,ae⟩
 rw [eR,eE,ae];clear he ho ao ap en aa hT hG hl eN eR eE ae;go_enter Tryz.func40,Tryz.ntmps40;go_wp2_with fail
 refine U.mono ?_;rintro e w1 ⟨rfl,I⟩;have ac:Hid (Below w.heap.size w w1):=I;clear I U;go_wp2_with fail
 refine (ad.out w1 ac.out).mono ?_;rintro e w2 ⟨rfl,rfl⟩;go_wp2_with fail
 refine (ad.out w2 ac.out).mono ?_;rintro e ab ⟨rfl,rfl⟩;clear ad;go_wp2_with fail
 refine (f_Y n hn 0 (-4294967296) H ak ab).mono ?_;rintro e w3 ⟨g3,f3,c3,rfl,h3,k3,an⟩;have H3:Hid (OwnK .i64 3 w3 ab.heap.size (.slice (some ⟨g3,0,none⟩) 1 1) [(n:Int)]/\OwnK .i64 48 w3 ab.heap.size (.slice (some ⟨f3,0,none⟩) n c3) (l_g n 0 (H:Int) (-4294967296))/\Below w.heap.size w w3):=⟨h3,k3,a_c ac.out an⟩
 clear h3 k3 an;go_wp2_with fail
 refine (f_Y n hn 4294967296 0 H ak w3).mono ?_;rintro e V ⟨g4,f4,c4,rfl,h4,k4,am⟩;have H4:Hid (OwnK .i64 3 V w3.heap.size (.slice (some ⟨g4,0,none⟩) 1 1) [(n:Int)]/\OwnK .i64 48 V w3.heap.size (.slice (some ⟨f4,0,none⟩) n c4) (l_g n 4294967296 (H:Int) 0)/\Below w3.heap.size w3 V):=⟨h4,k4,am⟩
 clear h4 k4 am;go_wp2_with fail
 generalize hK:World.alloc _ _=K;have J:Below V.heap.size V K:=by rw [<- hK];exact a_b V _
 have hL:K.heap[V.heap.size]?=some (.cells [.int .i64 1,.int .i64 0,.int .i64 0,.int .i64 0,.slice (some ⟨g3,0,none⟩) 1 1,.slice (some ⟨f3,0,none⟩) n c3,.int .i64 1,.int .i64 0,.int .i64 0,.int .i64 0,.slice (some ⟨g4,0,none⟩) 1 1,.slice (some ⟨f4,0,none⟩) n c4,.int .i64 4,.int .i64 o,.int .i64 N,.int .i64 0,.slice none 0 0,.slice none 0 0,.int .i64 9,.int .i64 (N+2),.int .i64 0,.int .i64 0,.slice none 0 0,.slice none 0 0,.int .i64 2,.int .i64 o,.int .i64 (N+3),.int .i64 0,.slice none 0 0,.slice none 0 0,.int .i64 2,.int .i64 (N+4),.int .i64 (N+1),.int .i64 0,.slice none 0 0,.slice none 0 0,.int .i64 11,.int .i64 (N+5),.int .i64 0,.int .i64 1,.slice none 0 0,.slice none 0 0,.int .i64 4,.int .i64 (N+6),.int .i64 (N+1),.int .i64 0,.slice none 0 0,.slice none 0 0,.int .i64 9,.int .i64 (N+7),.int .i64 0,.int .i64 0,.slice none 0 0,.slice none 0 0].toArray 128 (0,0)):=by rw [<- hK];exact heap_alloc_new _ _
 have O:Below w3.heap.size w3 K:=a_c H4.out.2.2 J;have hb:Below w.heap.size w K:=a_c H3.out.2.2 O;have aj:Below B w K:=hb.mono HZ.out
 have cl:=h_r B L ns HT.out.2.1 (hgS N o n (H:Int)) HS.out HT.out.2.2 V.heap.size 9 _ rfl (by omega) K (HT.out.1.up hb) (show Hid _ from fun W hW=>ah.out W (aj.trans hW)) hL (fun i hi=>by
  match i,hi with
  | 0,_=>exact ⟨_,_,_,_,_,_,rfl,rfl,rfl,rfl,rfl,rfl,by show KeptL _ _ _ [((l_g n 0 (H:Int) (-4294967296)).length:Int)];rw [d_J];exact (H3.out.1.up O).keptL (by decide),(H3.out.2.1.up O).keptL (by decide)⟩
  | 1,_=>exact ⟨_,_,_,_,_,_,rfl,rfl,rfl,rfl,rfl,rfl,by show KeptL _ _ _ [((l_g n 4294967296 (H:Int) 0).length:Int)];rw [d_J];exact (H4.out.1.up J).keptL (by decide),(H4.out.2.1.up J).keptL (by decide)⟩
  | 2,_=>exact ⟨_,_,_,_,_,_,rfl,rfl,rfl,rfl,rfl,rfl,KeptL.nil _ _,KeptL.nil _ _⟩
  | 3,_=>exact ⟨_,_,_,_,_,_,rfl,rfl,rfl,rfl,rfl,rfl,KeptL.nil _ _,KeptL.nil _ _⟩
  | 4,_=>exact ⟨_,_,_,_,_,_,rfl,rfl,rfl,rfl,rfl,rfl,KeptL.nil _ _,KeptL.nil _ _⟩
  | 5,_=>exact ⟨_,_,_,_,_,_,rfl,rfl,rfl,rfl,rfl,rfl,KeptL.nil _ _,KeptL.nil _ _⟩
  | 6,_=>exact ⟨_,_,_,_,_,_,rfl,rfl,rfl,rfl,rfl,rfl,KeptL.nil _ _,KeptL.nil _ _⟩
  | 7,_=>exact ⟨_,_,_,_,_,_,rfl,rfl,rfl,rfl,rfl,rfl,KeptL.nil _ _,KeptL.nil _ _⟩
  | 8,_=>exact ⟨_,_,_,_,_,_,rfl,rfl,rfl,rfl,rfl,rfl,KeptL.nil _ _,KeptL.nil _ _⟩)
 have HK:Hid (Below w.heap.size w K):=hb;rw [M.out.1,M.out.2.1,M.out.2.2] at cl;clear hK J hL hb aj O HS M;refine cl.mono ?_;rintro e w5 ⟨rfl,af,J,ag,ai⟩;have HF:Hid (TapC w5 B L NS/\Below B w w5/\Only SC w w5/\Spar2 L w w5):=⟨af,(HK.out.mono HZ.out).trans J,(Only.of HK.out).trans ag,Spar2.trans (Spar2.of HK.out) ai HK.out.size⟩
 clear af J ag ai cl;go_wp2;go_ret2;exact ⟨rfl,HF.out⟩
end Go.Proofs.YtcpbhhlepdgdkaaGreatDoor.Wd
namespace Go.Proofs.YtcpbhhlepdgdkaaGreatDoor.Wd
open Go.RowKit
/-- All that stood stands but two blocks. -/
def But2 (x y:Nat) (W W':World):Prop:=W.heap.size<=W'.heap.size/\∀ k,k < W.heap.size->k≠x->k≠y->W'.heap[k]?=W.heap[k]?
theorem But2.of {x y:Nat} {W W':World} (h:Below W.heap.size W W'):But2 x y W W':=⟨h.size,fun k D _ _=>h.block k D⟩
theorem But2.set {x y:Nat} {W W':World} (h:But2 x y W W') {b o:Nat} {v:Value} (hb:b=x∨b=y):But2 x y W (W'.setCell ⟨b,o,none⟩ v):=⟨by simpa using h.1,fun k H E D=>by
 rw [Below.heap_setCell _ _ _ _ (show k≠b by rcases hb with rfl|rfl <;> assumption)];exact h.2 k H E D⟩
theorem But2.up {x y:Nat} {W W' D:World} (h:But2 x y W W') (E:Below W'.heap.size W' D):But2 x y W D:=⟨Nat.le_trans h.1 E.size,fun k H J I=>(E.block k (Nat.lt_of_lt_of_le H h.1)).trans (h.2 k H J I)⟩
theorem But2.refl (x y:Nat) (W:World):But2 x y W W:=⟨Nat.le_refl _,fun _ _ _ _=>rfl⟩
theorem But2.cell {x y b o:Nat} {W W':World} {v:Value} (h:But2 x y W W') (D:W.cell? ⟨b,o,none⟩=some v) (H:b≠x) (E:b≠y):W'.cell? ⟨b,o,none⟩=some v:=by
 have hb:=a_a D;unfold World.cell? at D ⊢;rw [h.2 b hb H E];exact D
/-- A row of numbers that was copied over whole. -/
theorem n_r (k:IntKind) (l:List Int):(a_4 k l).length=l.length:=by simp [a_4]
theorem p_L {e:TypeId} {W:World} {B g n c:Nat} {l x:List Int} (h:OwnK .i64 e W B (.slice (some ⟨g,0,none⟩) n c) l) (R:x.length=n):
  ∃ D:Array Value,W.heap[g]?=some (.cells D e (0,0))/\0+(a_4 .i64 x).length<=D.size/\∀ U,W.setRow g (D.toList.take 0++(a_4 .i64 x++D.toList.drop (0+(a_4 .i64 x).length))).toArray=U->Nums .i64 U (.slice (some ⟨g,0,none⟩) n c) x/\Stay g W U/\∀ H,H<=g->Below H W U:=by
 rcases h.2 with ⟨J,_⟩|⟨q,V,D,J,h2,O,h4,h5,h6,h7⟩
 ·cases J
 ·cases J;have hl:l.length<=D.size:=by omega
  refine ⟨D,O,by rw [n_r];omega,fun U L=>⟨?_,?_,?_⟩⟩
  ·refine .inr ⟨⟨g,0,none⟩,c,by rw [R],fun j v E=>?_⟩;rw [a_t,Nat.zero_add,<- L];unfold World.cell? World.setRow;simp only [Array.getElem?_modify,O]
   have I:j < (a_4 .i64 x).length:=by
    rcases Nat.lt_or_ge j (a_4 .i64 x).length with h|h
    ·exact h
    ·rw [List.getElem?_eq_none h] at E;cases E
   simp [List.getElem?_append_left I,E]
  ·rw [<- L];exact ⟨by simp [World.setRow],fun b hb _=>setRow_other W g b _ hb⟩
  ·intro H M;rw [<- L];exact below_setRow (Below.refl _ _) M _
end Go.Proofs.YtcpbhhlepdgdkaaGreatDoor.Wd
namespace Go.Proofs.YtcpbhhlepdgdkaaGreatDoor.Wd
open Go.RowKit Fx
/-- A row of tensors in a block, cell by cell. -/
def TsK (W:World) (B:Nat) (l:List Ten) (xs:List Value):Prop:=xs.length=l.length*2/\∀ i t,l[i]?=some t->∃ s u,xs[i*2]?=some s/\xs[i*2+1]?=some u/\OwnK .i64 3 W B s t.1/\OwnK .i64 48 W B u t.2
theorem TsK.only {S:List TypeId} {W W':World} {B:Nat} {l:List Ten} {E:List Value} (h:TsK W B l E) (D:Only S W W') (O:3∉S) (I:48∉S):TsK W' B l E:=⟨h.1,fun i t J=>by
 obtain ⟨s,u,H,L,M,R⟩:=h.2 i t J;exact ⟨s,u,H,L,M.only D O,R.only D I⟩⟩
theorem TsK.set {W:World} {B:Nat} {l:List Ten} {E:List Value} (h:TsK W B l E) {j:Nat} (J:j < l.length) {s u:Value} {t:Ten} (O:OwnK .i64 3 W B s t.1) (L:OwnK .i64 48 W B u t.2):TsK W B (l.set j t) ((E.set (j*2) s).set (j*2+1) u):=by
 have hl:=h.1;refine ⟨by simp [h.1],fun i M D=>?_⟩;rw [List.getElem?_set] at D;by_cases e:j=i
 ·subst e;rw [if_pos rfl,if_pos J] at D;cases D;refine ⟨s,u,?_,?_,O,L⟩
  ·rw [List.getElem?_set,if_neg (by omega),List.getElem?_set,if_pos rfl,if_pos (by omega)]
  ·rw [List.getElem?_set,if_pos rfl,if_pos (by rw [List.length_set];omega)]
 ·rw [if_neg e] at D;obtain ⟨I,U,H,R,V,a4⟩:=h.2 i M D;refine ⟨I,U,?_,?_,V,a4⟩
  ·rw [List.getElem?_set,if_neg (by omega),List.getElem?_set,if_neg (by omega)];exact H
  ·rw [List.getElem?_set,if_neg (by omega),List.getElem?_set,if_neg (by omega)];exact R
/-- A sweep on its way: the tape, the gradients so far, which nodes were given anything. -/
structure SwC (W:World) (B sb tb gb vb N:Nat) (l:List Ten) (gv:List Bool):Prop where
 hs:W.heap[sb]?=some (.cells #[.pointer (some ⟨tb,0,none⟩),.slice (some ⟨gb,0,none⟩) N N,.slice (some ⟨vb,0,none⟩) N N] 105 (0,0))
 hg:∃ xs,W.heap[gb]?=some (.cells xs.toArray 77 (0,0))/\TsK W B l xs
 hv:W.heap[vb]?=some (.cells (gv.map Value.bool).toArray 4 (0,0))
 bs:B<=sb/\B<=gb/\B<=vb
 ll:l.length=N
 lv:gv.length=N
theorem SwC.up {W W':World} {B I H J E N:Nat} {l:List Ten} {L:List Bool} (h:SwC W B I H J E N l L) (D:Below W.heap.size W W'):SwC W' B I H J E N l L:=by
 obtain ⟨O,M,R⟩:=h.hg;exact ⟨(D.block _ (a_i h.hs)).trans h.hs,⟨O,(D.block _ (a_i M)).trans M,R.only (S:=[]) (Only.of D) (by simp) (by simp)⟩,(D.block _ (a_i h.hv)).trans h.hv,h.bs,h.ll,h.lv⟩
theorem a_Y {W:World} {b i:Nat} {D:Array Value} {e:TypeId} {v:Value} (h:W.heap[b]?=some (.cells D e (0,0))) (E:D[i]?=some v):W.cell? ⟨b,i,none⟩=some v/\W.frozen? ⟨b,i,none⟩=false:=by
 constructor
 ·unfold World.cell?;simpa [h] using E
 ·unfold World.frozen?;simp [h]
theorem d_p {W:World} {b H:Nat} {M D:Array Value} {e J:TypeId} (h:W.heap[b]?=some (.cells M e (0,0))) (I:W.heap[H]?=some (.cells D J (0,0))) (E:e≠J):b≠H:=fun L=>by
 subst L;rw [h] at I;cases I;exact E rfl
theorem SwC.tape {W:World} {B D H I E N:Nat} {l:List Ten} {J:List Bool} (h:SwC W B D H I E N l J):W.cell? ⟨D,0,none⟩=some (.pointer (some ⟨H,0,none⟩))/\W.cell? ⟨D,1,none⟩=some (.slice (some ⟨I,0,none⟩) N N)/\W.cell? ⟨D,2,none⟩=some (.slice (some ⟨E,0,none⟩) N N):=
 ⟨(a_Y h.hs rfl).1,(a_Y h.hs rfl).1,(a_Y h.hs rfl).1⟩
theorem SwC.read {W:World} {B J R D I N:Nat} {l:List Ten} {U:List Bool} (h:SwC W B J R D I N l U) {i:Nat} {t:Ten} (L:l[i]?=some t):
  ∃ s u,(W.cell? ⟨D,i*2,none⟩=some s/\W.frozen? ⟨D,i*2,none⟩=false)/\(W.cell? ⟨D,i*2+1,none⟩=some u/\W.frozen? ⟨D,i*2+1,none⟩=false)/\OwnK .i64 3 W B s t.1/\OwnK .i64 48 W B u t.2:=by
 obtain ⟨xs,E,V⟩:=h.hg;obtain ⟨s,u,H,M,O,a4⟩:=V.2 i t L;exact ⟨s,u,a_Y E (by simpa using H),a_Y E (by simpa using M),O,a4⟩
theorem SwC.flag {W:World} {B I H J D N:Nat} {l:List Ten} {E:List Bool} (h:SwC W B I H J D N l E) {i:Nat} (L:i < N):W.cell? ⟨D,i,none⟩=some (.bool (E.getD i false))/\W.frozen? ⟨D,i,none⟩=false:=by
 refine a_Y h.hv ?_;have:=h.lv;rw [List.getElem?_toArray,List.getElem?_map,List.getD_eq_getElem?_getD,List.getElem?_eq_getElem (by omega)];rfl
theorem SwC.set {W:World} {B I L D H N:Nat} {l:List Ten} {R:List Bool} (h:SwC W B I L D H N l R) {j:Nat} (U:j < N) {s u:Value} {t:Ten} (hs:OwnK .i64 3 W B s t.1) (V:OwnK .i64 48 W B u t.2):SwC ((W.setCell ⟨D,j*2,none⟩ s).setCell ⟨D,j*2+1,none⟩ u) B I L D H N (l.set j t) R:=by
 obtain ⟨xs,E,hk⟩:=h.hg;have J:I≠D:=d_p h.hs E (by decide);have M:H≠D:=d_p h.hv E (by decide);have o1:=Only.set (S:=[77]) (o:=j*2) (x:=s) E (by simp);have O:=a_n (o:=j*2) (x:=s) E;have o2:=Only.set (S:=[77]) (o:=j*2+1) (x:=u) O (by simp);have x2:=a_n (o:=j*2+1) (x:=u) O;refine ⟨?_,⟨(xs.set (j*2) s).set (j*2+1) u,?_,(hk.set (by rw [h.ll];exact U) hs V).only (o1.trans o2) (by decide) (by decide)⟩,?_,h.bs,by rw [List.length_set];exact h.ll,h.lv⟩
 ·rw [a_X _ _ _ _ _ J,a_X _ _ _ _ _ J];exact h.hs
 ·rw [x2];simp
 ·rw [a_X _ _ _ _ _ M,a_X _ _ _ _ _ M];exact h.hv
theorem SwC.mark {W:World} {B E J H D N:Nat} {l:List Ten} {L:List Bool} (h:SwC W B E J H D N l L) (j:Nat):SwC (W.setCell ⟨D,j,none⟩ (.bool true)) B E J H D N l (L.set j true):=by
 obtain ⟨R,I,U⟩:=h.hg;have M:E≠D:=d_p h.hs h.hv (by decide);have O:H≠D:=d_p I h.hv (by decide);have V:=Only.set (S:=[4]) (o:=j) (x:=.bool true) h.hv (by simp);refine ⟨?_,⟨R,?_,U.only V (by decide) (by decide)⟩,?_,h.bs,h.ll,by rw [List.length_set];exact h.lv⟩
 ·rw [a_X _ _ _ _ _ M];exact h.hs
 ·rw [a_X _ _ _ _ _ O];exact I
 ·rw [a_n h.hv];simp [List.map_set]
theorem But2.only {x y:Nat} {W W':World} (h:But2 x y W W') {M D:Array Value} {e I:TypeId} (L:W.heap[x]?=some (.cells M e (0,0))) (J:W.heap[y]?=some (.cells D I (0,0))):Only [e,I] W W':=⟨h.1,fun k O H=>h.2 k O (fun E=>by subst E;exact H _ _ _ L (by simp)) (fun E=>by subst E;exact H _ _ _ J (by simp))⟩
theorem r_l (n:Int) (D:n < 0) (L:Nat) (J O:Option Addr) (I R E H:Nat) (w:World):
  Calls Tryz.prog 59 #[.pointer (some ⟨L,0,none⟩),.int .i64 n,.agg #[.slice J I R,.slice O E H]] w fun e M=>e = .returned (.int .i64 0)/\Below w.heap.size w M:=by
 have U:decide (n < 0)=true:=decide_eq_true D;clear D;go_enter Tryz.func59,Tryz.ntmps59;go_wp2;exact bodyPost_ret (v:=.int .i64 0) (by simp [results,Tryz.results59,go_sem]) rfl ⟨rfl,a_b _ _⟩
theorem o_8 (B sb tb D vb N:Nat) (l:List Ten) (gv:List Bool) (j:Nat) (hj:j < N) (t p:Ten) (ht:l[j]?=some t) (gt:b_b t) (gp:b_b p) (ep:p.1=t.1) (p1 q1:Option Addr) (n1 c1 m1 e1:Nat) (w:World) (hS:SwC w B sb tb D vb N l gv) (hB:B<=w.heap.size) (h1:Nums .i64 w (.slice p1 n1 c1) p.1) (h2:Nums .i64 w (.slice q1 m1 e1) p.2):
  Calls Tryz.prog 59 #[.pointer (some ⟨sb,0,none⟩),.int .i64 (j:Int),.agg #[.slice p1 n1 c1,.slice q1 m1 e1]] w fun e w'=>e = .returned (.int .i64 0)/\SwC w' B sb tb D vb N (l.set j (q_P t p)) (gv.set j true)/\Below B w w'/\But2 D vb w w':=by
 obtain ⟨A,eA⟩:∃ A,q_P t p=A:=⟨_,rfl⟩
 have hE:b_C t.1 t.2 p.1 p.2=0:=by
  obtain ⟨a,ga,ea⟩:=b_n gt.1.1;obtain ⟨f,jj⟩:=h_J a;obtain ⟨k1,k2⟩:=b_u ga ga f (by rw [jj];exact ga);exact (if_pos ⟨gt.1,gp.1⟩).trans (by rw [ep,ea];exact k2)
 obtain ⟨s,u,⟨c0,f0⟩,⟨d0,g0⟩,hs,hu⟩:=hS.read ht;obtain ⟨p3,n3,c3,rfl⟩:=hs.form_;obtain ⟨q3,m3,e3,rfl⟩:=hu.form_
 have cA:Hid (∀ W,Below w.heap.size w W->Calls Tryz.prog 79 #[.agg #[.slice p3 n3 c3,.slice q3 m3 e3],.agg #[.slice p1 n1 c1,.slice q1 m1 e1]] W fun e w'=>∃ v',e = .returned (.tuple #[v',.int .i64 0])/\TRes w' W.heap.size v' A.1 A.2/\Below W.heap.size W w'):=fun W hW=>by
  have:=g_V p3 q3 p1 q1 n3 c3 m3 e3 n1 c1 m1 e1 t.1 t.2 p.1 p.2 gt.2.1 gt.2.2 gp.2.1 gp.2.2 W (hs.nums.up hW) (hu.nums.up hW) (h1.up hW) (h2.up hW);rw [hE] at this;rw [<- eA];exact this
 rw [eA];obtain ⟨b0,b1,b2⟩:=hS.tape;have HS:Hid (SwC w B sb tb D vb N l gv/\B<=w.heap.size):=⟨hS,hB⟩
 have HC:Hid ((w.cell? ⟨sb,1,none⟩=some (.slice (some ⟨D,0,none⟩) N N))/\w.cell? ⟨D,j*2,none⟩=some (.slice p3 n3 c3)/\w.cell? ⟨D,j*2+1,none⟩=some (.slice q3 m3 e3)):=⟨b1,c0,d0⟩
 have av:(j:Int) < (N:Int):=by omega
 have d1:decide ((j:Int) < 0)=false:=decide_eq_false (by omega);haveI:Nonempty World:=⟨w⟩
 clear eA hE hs hu h1 h2 gt gp ep ht hS hB b0 b1 b2 c0 d0 f0 g0;go_enter Tryz.func59,Tryz.ntmps59;go_wp2_with fail
 generalize ad:World.alloc _ _=W0;have O:=b_1 (w:=w) ad (by go_grown);have XP:Hid (Cel W0 w.heap.size (.slice p1 n1 c1) (.slice q1 m1 e1)):=a_F ad (by simp [go_sem]);clear ad;have b1:=a_d HC.out.1 O.out;have c0:=a_d HC.out.2.1 O.out;have ao:=a_d HC.out.2.2 O.out;obtain ⟨x0,x1,_,_⟩:=XP.out;have kb:=a_a b1;have kc:=a_a c0;have kx:=a_a x0;refine l_F [⟨8,20,TupP W0.heap.size A.1 A.2 0⟩,⟨9,11,TupP W0.heap.size A.1 A.2 0⟩,⟨10,21,OwnT W0.heap.size A.1 A.2⟩,⟨12,7,NewC W0.heap.size⟩] 13 39 (by kernel_rfl) rfl rfl 11 _ rfl (by decide) rfl (by kernel_rfl) (by kernel_rfl) (fun _ _ _ _ h=>h) (by rfl) ?_ ?_
 ·intro e he v W W' h hb;simp only [List.mem_cons,List.not_mem_nil,or_false] at he;rcases he with rfl|rfl|rfl|rfl
  ·exact TupP.up h hb
  ·exact TupP.up h hb
  ·exact OwnT.up h hb
  ·exact NewC.up h hb
 apply Exists.intro;refine ⟨?yl1,?wk1,?pk1,?rest1⟩
 case wk1=>
  intro x;simp only [List.take_succ_cons,List.take_zero]
  iterate 8
   refine a_l rfl rfl ?_;apply Exists.intro;refine ⟨fun F hF hf K hK=>?_,?_⟩
   ·have hFc:=hF.cell;have hFf:=hF.frozen
    go_big_quiet_op
    first|exact hK|(apply Exists.intro;refine ⟨fun _=>?_,?_⟩;(· fail);exact hK)
   (try simp only [Act.put,sA_,sB_,sC_])
  refine a_q rfl rfl ?_ ?_
  ·intro F hF hf d;have hFc:=hF.cell;have hFf:=hF.frozen;simp [a_k,a_f,go_sem];refine (cA.out (F d) (a_c O.out (hF.below d))).mono ?_;rintro e' w8 ⟨v8,rfl,h8,aq⟩;exact ⟨_,rfl,⟨v8,rfl,(h8.low (hF.below d).size).own⟩,aq⟩
  (try simp only [Act.put,sA_,sB_,sC_])
  refine a_q rfl rfl ?_ ?_
  ·intro F hF hf d;have hFc:=hF.cell;have hFf:=hF.frozen;have h9:=hf _ List.mem_cons_self (by rfl) d;simp [a_k,a_f,go_sem];exact ⟨h9,Below.refl _ _⟩
  (try simp only [Act.put,sA_,sB_,sC_])
  refine a_q rfl rfl ?_ ?_
  ·intro F hF hf d;have hFc:=hF.cell;have hFf:=hF.frozen;have h9:=hf _ (List.mem_cons_of_mem _ List.mem_cons_self) (by rfl) d;obtain ⟨u9,e9,o9⟩:=h9;simp only [] at e9;simp [a_k,a_f,go_sem,e9];exact ⟨o9,Below.refl _ _⟩
  (try simp only [Act.put,sA_,sB_,sC_])
  refine a_l rfl rfl ?_;apply Exists.intro;refine ⟨fun F hF hf K hK=>?_,?_⟩
  ·have hFc:=hF.cell;have hFf:=hF.frozen;have h9:=hf _ (List.mem_cons_of_mem _ List.mem_cons_self) (by rfl);obtain ⟨u9,e9,_⟩:=h9 W0;simp only [] at e9
   go_big_quiet_op
   first|exact hK|(apply Exists.intro;refine ⟨fun _=>?_,?_⟩;(· fail);exact hK)
  (try simp only [Act.put,sA_,sB_,sC_])
  refine a_q rfl rfl ?_ ?_
  ·intro F hF hf d;have hFc:=hF.cell;have hFf:=hF.frozen;simp [a_k,a_f,go_sem];exact ⟨⟨(F d).heap.size,rfl,by show ((F d).heap.push _)[(F d).heap.size]?=_;simp,(hF.below d).size⟩,a_b _ _⟩
  (try simp only [Act.put,sA_,sB_,sC_])
  refine b_c ?_;exact rfl
 case pk1=>
  intro x;simp only [b_l,List.foldl_cons,List.foldl_nil,Act.put,sA_,sB_,sC_]
 case yl1=>
  intro x hx;obtain ⟨W9,u9,e9,_⟩:=hx _ (List.mem_cons_of_mem _ List.mem_cons_self) (by rfl);simp only [] at e9;refine ⟨.int .i64 0,fun t ht=>?_,.inl ⟨by rfl,fun w=>?_⟩⟩
  ·cases ht;rfl
  ·simp [execOp,Act.eval,e9,go_sem]
 intro z1 xs ac hf;simp only [List.drop_succ_cons,List.drop_zero];obtain ⟨L,H,J,I,M,E,ev,o1,o2⟩:=hf _ (List.mem_cons_of_mem _ (List.mem_cons_of_mem _ List.mem_cons_self));obtain ⟨V,eb,ab,ai⟩:=hf _ (List.mem_cons_of_mem _ (List.mem_cons_of_mem _ (List.mem_cons_of_mem _ List.mem_cons_self)));simp only [] at ev eb;obtain ⟨x8,e8⟩:∃ q,xs 8=q:=⟨_,rfl⟩
 obtain ⟨x9,e9⟩:∃ q,xs 9=q:=⟨_,rfl⟩
 simp only [ev,eb,e8,e9];have f1:=o1.off_type ab (by decide);have f2:=o2.off_type ab (by decide);have af:Below W0.heap.size W0 (set2 z1 V (.slice L H J) (.slice I M E)):=a_8 ac V ai _ _;have ah:SwC (set2 z1 V (.slice L H J) (.slice I M E)) B sb tb D vb N l gv:=(HS.out.1.up O.out).up af;have q1:OwnK .i64 3 (set2 z1 V (.slice L H J) (.slice I M E)) B (.slice L H J) A.1:=(o1.stay (Stay.set2 _ _ _) f1).low (by have:=O.out.size;have:=HS.out.2;omega);have q2:OwnK .i64 48 (set2 z1 V (.slice L H J) (.slice I M E)) B (.slice I M E) A.2:=(o2.stay (Stay.set2 _ _ _) f2).low (by have:=O.out.size;have:=HS.out.2;omega);have ak:Below w.heap.size w (set2 z1 V (.slice L H J) (.slice I M E)):=a_c O.out af;have ag:Cel (set2 z1 V (.slice L H J) (.slice I M E)) V (.slice L H J) (.slice I M E):=(c_r ab).set _ _;have R:Hid ((SwC (set2 z1 V (.slice L H J) (.slice I M E)) B sb tb D vb N l gv/\OwnK .i64 3 (set2 z1 V (.slice L H J) (.slice I M E)) B (.slice L H J) A.1/\OwnK .i64 48 (set2 z1 V (.slice L H J) (.slice I M E)) B (.slice I M E) A.2)/\Below w.heap.size w (set2 z1 V (.slice L H J) (.slice I M E))/\Cel (set2 z1 V (.slice L H J) (.slice I M E)) V (.slice L H J) (.slice I M E)):=⟨⟨ah,q1,q2⟩,ak,ag⟩
 obtain ⟨y0,y1,y2,y3⟩:=c_r ab;have cz:=a_a y0;clear hf ev eb e8 e9 f1 f2 o1 o2 cA b1 c0 ao x0 x1 kb kc kx af ah q1 q2 ak ag ac ab ai HC XP O;go_wp2_with fail
 obtain ⟨W1,ae⟩:∃ W1,(set2 z1 V (.slice L H J) (.slice I M E))=W1:=⟨_,rfl⟩
 rw [show ((z1.setCell ⟨V,0,none⟩ (.slice L H J)).setCell ⟨V,1,none⟩ (.slice I M E))=W1 from ae];rw [ae] at R;clear ae y0 y1 y2 y3 cz;obtain ⟨y0,y1,_,_⟩:=R.out.2.2;have cz:=a_a y0;obtain ⟨b0,b1,b2⟩:=R.out.1.1.tape;have kb:=a_a b1;obtain ⟨ax,aa,aj⟩:=R.out.1.1.hg;have an:=aj.1;have am:=R.out.1.1.ll;obtain ⟨va,i0,i1⟩:∃ va,W1.cell? ⟨D,j*2,none⟩=some va/\W1.frozen? ⟨D,j*2,none⟩=false:=⟨_,a_Y aa (by rw [List.getElem?_toArray];exact List.getElem?_eq_getElem (by omega))⟩
 obtain ⟨vc,i2,i3⟩:∃ va,W1.cell? ⟨D,j*2+1,none⟩=some va/\W1.frozen? ⟨D,j*2+1,none⟩=false:=⟨_,a_Y aa (by rw [List.getElem?_toArray];exact List.getElem?_eq_getElem (by omega))⟩
 obtain ⟨v0,v1⟩:=R.out.1.1.flag hj;have kg:=a_a i0;have kv:=a_a v0;have aw:D≠vb:=d_p aa R.out.1.1.hv (by decide);have ar:sb≠D:=d_p R.out.1.1.hs aa (by decide);have au:sb≠vb:=d_p R.out.1.1.hs R.out.1.1.hv (by decide)
 have HZ:Hid (SwC (((W1.setCell ⟨D,j*2,none⟩ (.slice L H J)).setCell ⟨D,j*2+1,none⟩ (.slice I M E)).setCell ⟨vb,j,none⟩ (.bool true)) B sb tb D vb N (l.set j A) (gv.set j true)/\Below B w (((W1.setCell ⟨D,j*2,none⟩ (.slice L H J)).setCell ⟨D,j*2+1,none⟩ (.slice I M E)).setCell ⟨vb,j,none⟩ (.bool true))/\But2 D vb w (((W1.setCell ⟨D,j*2,none⟩ (.slice L H J)).setCell ⟨D,j*2+1,none⟩ (.slice I M E)).setCell ⟨vb,j,none⟩ (.bool true))):=by
  have h:=(R.out.1.1.set hj R.out.1.2.1 R.out.1.2.2).mark j;have bs:=R.out.1.1.bs;exact ⟨h,(((R.out.2.1.mono HS.out.2).setCell (p:=⟨D,j*2,none⟩) bs.2.1 _).setCell (p:=⟨D,j*2+1,none⟩) bs.2.1 _).setCell (p:=⟨vb,j,none⟩) bs.2.2 _,((((But2.of R.out.2.1).set (.inl rfl)).set (.inl rfl)).set (.inr rfl))⟩
 clear aa aj an am;go_region;generalize hZ:World.drew _=Z
 have ap:Hid (SwC Z B sb tb D vb N (l.set j A) (gv.set j true)/\Below B w Z/\But2 D vb w Z):=by
  have d:∀ {U:World},U.drew=Z->Below U.heap.size U Z:=fun h=>by rw [<- h];exact c_V (Below.refl _ _)
  exact ⟨HZ.out.1.up (d hZ),HZ.out.2.1.trans ((d hZ).mono (Nat.le_trans HS.out.2 (by have:=R.out.2.1.size;simpa using this))),HZ.out.2.2.up (d hZ)⟩
 clear hZ HZ R;go_wp2;exact bodyPost_ret (v:=.int .i64 0) (by simp [results,Tryz.results59,go_sem]) rfl ⟨rfl,ap.out⟩
end Go.Proofs.YtcpbhhlepdgdkaaGreatDoor.Wd
namespace Go.Proofs.YtcpbhhlepdgdkaaGreatDoor.Wd
open Go.RowKit
/-- The block that a told value names: a pointer's; a row's; of several values the first's. -/
def n_D (v:Value):Option Nat:=match v with
 | .pointer (some a)=>some a.block
 | .slice (some a) _ _=>some a.block
 | .tuple xs=>match (xs[0]?:Option Value) with
  | some (Value.slice (some a) _ _)=>some a.block
  | _=>none
 | _=>none
end Go.Proofs.YtcpbhhlepdgdkaaGreatDoor.Wd
namespace Go.Proofs.YtcpbhhlepdgdkaaGreatDoor.Wd
open Go.RowKit Fx
def TupR (B:Nat) (a b:Ten) (v:Value) (W:World):Prop:=∃ u q,v = .tuple #[u,q,.int .i64 0]/\OwnT B a.1 a.2 u W/\OwnT B b.1 b.2 q W
theorem TupR.up {B:Nat} {a b:Ten} {v:Value} {W W':World} (h:TupR B a b v W) (D:Below W.heap.size W W'):TupR B a b v W':=by
 obtain ⟨u,q,e,H,E⟩:=h;exact ⟨u,q,e,H.up D,E.up D⟩
theorem n_s (B B0 tb:Nat) (ns:List Nd) (hG:NodesG ns) (hV:NodesV ns) (aB:NodesK ns) (root i:Nat) (hr:root < ns.length) (hi:i<=root) (E:SwT) (af:SwG ns root E) (O V vb:Nat) (w:World) (hT:TapC w B0 tb ns) (aA:Hid (Tz w)) (hS:SwC w B O tb V vb (root+1) E.1 E.2) (hB:B<=w.heap.size):
  Calls Tryz.prog 42 #[.pointer (some ⟨O,0,none⟩),.int .i64 (i:Int)] w fun e H=>e = .returned (.int .i64 0)/\SwC H B O tb V vb (root+1) (c_q ns i E).1 (c_q ns i E).2/\Below B w H:=by
 obtain ⟨N,eN⟩:∃ N,root+1=N:=⟨_,rfl⟩
 rw [eN] at hS ⊢;have ba:i < N:=by omega
 have bd:(i:Int) < (N:Int):=by omega
 obtain ⟨b0,b1,b2⟩:=hS.tape;obtain ⟨v0,v1⟩:=hS.flag ba;have kb:=a_a b0;have kv:=a_a v0;by_cases ak:E.2.getD i false=true;rotate_left
 ·have e0:c_q ns i E=E:=if_neg fun h=>ak h.1;rw [e0];have L:E.2.getD i false=false:=by simpa using ak
  rw [L] at v0;have HS:Hid (SwC w B O tb V vb N E.1 E.2):=hS;clear hS hT hG hV aB af aA e0 L ak eN;go_enter Tryz.func42,Tryz.ntmps42;go_wp2;exact bodyPost_ret (v:=.int .i64 0) (by simp [results,Tryz.results42,go_sem]) rfl ⟨rfl,HS.out,Below.refl _ _⟩
 rw [ak] at v0;obtain ⟨⟨op,a,b,k,D,X⟩,aa⟩:∃ nd,ndN ns (i:Int)=nd:=⟨_,rfl⟩
 have ah:ns[i]?=some ⟨op,a,b,k,D,X⟩:=by rw [<- aa];exact c_U (by omega)
 obtain ⟨g,eg⟩:∃ g,E.1.getD i noT=g:=⟨_,rfl⟩
 have aE:E.1[i]?=some g:=by rw [<- eg,List.getD_eq_getElem?_getD,List.getElem?_eq_getElem (by rw [af.l];omega)];rfl
 have hg:=af.g i hi;rw [eg,aa] at hg;obtain ⟨gs,gu,⟨c0,f0⟩,⟨M,f1⟩,az,au⟩:=hS.read aE;obtain ⟨p,n,c,rfl⟩:=az.form_;obtain ⟨p2,n2,c2,rfl⟩:=au.form_;obtain ⟨RA,an⟩:∃ R,onA op k (aOf ns ⟨op,a,b,k,D,X⟩) (bOf ns ⟨op,a,b,k,D,X⟩) g=R:=⟨_,rfl⟩
 obtain ⟨RB,aq⟩:∃ R,onB op k (aOf ns ⟨op,a,b,k,D,X⟩) (bOf ns ⟨op,a,b,k,D,X⟩) g=R:=⟨_,rfl⟩
 have aT:Hid (∀ W,Below w.heap.size w W->Calls Tryz.prog 43 #[.pointer (some ⟨tb,0,none⟩),.int .i64 (i:Int)] W fun e H=>∃ s t,e = .returned (.tuple #[.agg #[.int .i64 op,.int .i64 a,.int .i64 b,.int .i64 k,s,t],.bool true])/\OwnK .i64 3 H W.heap.size s D/\OwnK .i64 48 H W.heap.size t X/\Below W.heap.size W H):=fun W hW=>m_T B0 tb ns hG i _ ah W (hT.up hW)
 have aF:Hid (∀ W ps ab cs pt nt ct,Below w.heap.size w W->Calls Tryz.prog 58 #[.pointer (some ⟨tb,0,none⟩),.agg #[.int .i64 op,.int .i64 a,.int .i64 b,.int .i64 k,.slice ps ab cs,.slice pt nt ct],.agg #[.slice p n c,.slice p2 n2 c2]] W fun e H=>∃ u v,e = .returned (.tuple #[u,v,.int .i64 0])/\TRes H W.heap.size u RA.1 RA.2/\TRes H W.heap.size v RB.1 RB.2/\Below W.heap.size W H):=fun W ps ab cs pt nt ct hW=>by
  rw [<- an,<- aq];exact m_V B0 tb ns hG hV aB i op a b k D X ah ps pt p p2 ab cs nt ct n c n2 c2 g hg.1 hg.2 au.cap W (hT.up hW) (Hid.up_tz aA hW) (az.nums.up hW) (au.nums.up hW)
 obtain ⟨s1,aP,aD⟩:∃ s1:SwT,Hid (∀ W p1 q1 n1 M m1 L,SwC W B O tb V vb N E.1 E.2->B<=W.heap.size->Nums .i64 W (.slice p1 n1 M) RA.1->Nums .i64 W (.slice q1 m1 L) RA.2->Calls Tryz.prog 59 #[.pointer (some ⟨O,0,none⟩),.int .i64 a,.agg #[.slice p1 n1 M,.slice q1 m1 L]] W fun e H=>e = .returned (.int .i64 0)/\SwC H B O tb V vb N s1.1 s1.2/\Below B W H/\But2 V vb W H)
   /\ Hid (∀ W p1 q1 n1 M m1 L,SwC W B O tb V vb N s1.1 s1.2->B<=W.heap.size->Nums .i64 W (.slice p1 n1 M) RB.1->Nums .i64 W (.slice q1 m1 L) RB.2->Calls Tryz.prog 59 #[.pointer (some ⟨O,0,none⟩),.int .i64 b,.agg #[.slice p1 n1 M,.slice q1 m1 L]] W fun e H=>e = .returned (.int .i64 0)/\SwC H B O tb V vb N (c_q ns i E).1 (c_q ns i E).2/\Below B W H/\But2 V vb W H):=by
  have no:∀ (z:Int) (s:SwT),z < 0->∀ (W:World) (p1 q1:Option Addr) (n1 M m1 L:Nat),SwC W B O tb V vb N s.1 s.2->B<=W.heap.size->Calls Tryz.prog 59 #[.pointer (some ⟨O,0,none⟩),.int .i64 z,.agg #[.slice p1 n1 M,.slice q1 m1 L]] W fun e H=>e = .returned (.int .i64 0)/\SwC H B O tb V vb N s.1 s.2/\Below B W H/\But2 V vb W H:=fun z s hz W p1 q1 n1 M m1 L h hb=>by
   refine (r_l z hz O p1 q1 n1 M m1 L W).mono ?_;rintro e H ⟨rfl,hw⟩;exact ⟨rfl,h.up hw,hw.mono hb,But2.of hw⟩
  have ax:∀ (j:Nat) (s:SwT) (R:Ten),SwG ns root s->j<=root->b_b R->R.1=(ndN ns (j:Int)).D->∀ (W:World) (p1 q1:Option Addr) (n1 M m1 L:Nat),SwC W B O tb V vb N s.1 s.2->B<=W.heap.size->Nums .i64 W (.slice p1 n1 M) R.1->Nums .i64 W (.slice q1 m1 L) R.2->Calls Tryz.prog 59 #[.pointer (some ⟨O,0,none⟩),.int .i64 (j:Int),.agg #[.slice p1 n1 M,.slice q1 m1 L]] W fun e H=>e = .returned (.int .i64 0)/\SwC H B O tb V vb N (c_D s j R).1 (c_D s j R).2/\Below B W H/\But2 V vb W H:=fun j s R hs hj hR eR W p1 q1 n1 M m1 L h hb u1 u2=>by
   have q:=hs.g j hj;exact o_8 B O tb V vb N s.1 s.2 j (by omega) (s.1.getD j noT) R (by rw [List.getD_eq_getElem?_getD,List.getElem?_eq_getElem (by rw [hs.l];omega)];rfl) q.1 hR (eR.trans q.2.symm) p1 q1 n1 M m1 L W h hb u1 u2
  have a0:(ndN ns (i:Int)).op=op:=by rw [aa]
  by_cases ho:op=1
  ·have e0:c_q ns i E=E:=if_neg fun h=>h.2 (a0.trans ho);rw [e0]
   have bm:a = -1/\b = -1:=by
    rcases hV i _ ah with h|⟨h,_⟩
    ·exact h.2
    ·have:(2:Int)<=op:=h.1;omega
   exact ⟨E,fun W p1 q1 n1 M m1 L h hb _ _=>no a E (by omega) W p1 q1 n1 M m1 L h hb,fun W p1 q1 n1 M m1 L h hb _ _=>no b E (by omega) W p1 q1 n1 M m1 L h hb⟩
  ·obtain ⟨o1,o2⟩:=t_N hG hV ah ho hg.1 hg.2;simp only [] at o1 o2;rw [an] at o1;rw [aq] at o2;rcases hV i _ ah with h|⟨aW,ha,hb,a3,_⟩
   ·exact absurd h.1 ho
   simp only [] at aW ha hb a3;obtain ⟨ja,rfl⟩:∃ j:Nat,a=(j:Int):=⟨a.toNat,by omega⟩
   have gA:=af.give (j:=ja) (p:=RA) (by omega) o1.1 o1.2;have ao:E.2.getD i false=true/\(ndN ns (i:Int)).op≠1:=⟨ak,by rw [a0];exact ho⟩
   by_cases ht:d_D op
   ·have aU:=hb ht;obtain ⟨jb,rfl⟩:∃ j:Nat,b=(j:Int):=⟨b.toNat,by omega⟩
    have eD:RB.1=(ndN ns (jb:Int)).D:=(o2 ht).2.trans (show dD ns op (jb:Int)=_ by unfold dD;rw [if_pos ht])
    have e0:c_q ns i E=c_D (c_D E ja RA) jb RB:=by
     unfold c_q;rw [if_pos ao,aa];simp only [];rw [if_pos aU.1,eg,an,aq];rfl
    rw [e0];exact ⟨c_D E ja RA,ax ja E RA af (by omega) o1.1 o1.2,ax jb _ RB gA (by omega) (o2 ht).1 eD⟩
   ·have aU:=a3 ht
    have e0:c_q ns i E=c_D E ja RA:=by
     unfold c_q;rw [if_pos ao,aa];simp only [];rw [if_neg (by omega),eg,an];rfl
    rw [e0];exact ⟨c_D E ja RA,ax ja E RA af (by omega) o1.1 o1.2,fun W p1 q1 n1 M m1 L h hb _ _=>no b _ (by omega) W p1 q1 n1 M m1 L h hb⟩
 obtain ⟨s2,aY⟩:∃ s,c_q ns i E=s:=⟨_,rfl⟩
 rw [aY] at aD ⊢;have HS:Hid (SwC w B O tb V vb N E.1 E.2/\B<=w.heap.size):=⟨hS,hB⟩
 have HC:Hid ((w.cell? ⟨O,0,none⟩=some (.pointer (some ⟨tb,0,none⟩)))/\w.cell? ⟨O,1,none⟩=some (.slice (some ⟨V,0,none⟩) N N)/\w.cell? ⟨V,i*2,none⟩=some (.slice p n c)/\w.cell? ⟨V,i*2+1,none⟩=some (.slice p2 n2 c2)):=⟨b0,b1,c0,M⟩
 haveI:Nonempty World:=⟨w⟩
 clear aY an aq hg aE eg ah aa ak az au hS hB hT aA af aB hV hG f0 f1 c0 M eN hr hi;go_enter Tryz.func42,Tryz.ntmps42;go_wp2_with fail
 refine (aT.out w (Below.refl _ _)).mono ?_;rintro e w1 ⟨s_,t_,rfl,aO,aL,aJ⟩;obtain ⟨ps,ab,cs,rfl⟩:=aO.form_;obtain ⟨pt,nt,ct,rfl⟩:=aL.form_;clear aO aL aT b0 b1 b2 v0 v1 kb kv;go_wp2_with fail
 generalize aw:World.alloc _ _=W0;have aZ:Below w1.heap.size w1 W0:=by rw [<- aw];exact a_b _ _
 have XN:W0.heap[w1.heap.size]?=some (.cells #[.int .i64 op,.int .i64 a,.int .i64 b,.int .i64 k,.slice ps ab cs,.slice pt nt ct] 107 (0,0)):=by rw [<- aw];exact heap_alloc_new _ _
 have ac:Hid (Below w.heap.size w W0):=a_c aJ aZ;obtain ⟨nb,aG⟩:∃ nb,w1.heap.size=nb:=⟨_,rfl⟩
 rw [aG] at XN ⊢;have HX:Hid (W0.heap[nb]?=some (.cells #[.int .i64 op,.int .i64 a,.int .i64 b,.int .i64 k,.slice ps ab cs,.slice pt nt ct] 107 (0,0))):=XN;clear aw aZ aJ aG;have b0:=a_d HC.out.1 ac.out;have b1:=a_d HC.out.2.1 ac.out;have c0:=a_d HC.out.2.2.1 ac.out;have M:=a_d HC.out.2.2.2 ac.out;obtain ⟨⟨k0,k1,k2,k3,k4,k5⟩,_⟩:=g_s XN;have kz:=a_i XN;have kb:=a_a b0;have kc:=a_a c0;clear XN;refine s_U [⟨12,41,TupR W0.heap.size RA RB⟩,⟨13,28,TupR W0.heap.size RA RB⟩,⟨14,42,OwnT W0.heap.size RA.1 RA.2⟩,⟨15,43,OwnT W0.heap.size RB.1 RB.2⟩,⟨17,7,NewC W0.heap.size⟩,⟨18,8,NewC W0.heap.size⟩] 19 61 (by kernel_rfl) rfl rfl [15,16] (by kernel_rfl) (by kernel_rfl) (fun i0 hi o0 ho c a w v h=>?_) (by rfl) [17] [18] n_D ?fw (by decide) (by decide) ?ph ?_
 ·simp only [List.mem_cons,List.not_mem_nil,or_false] at hi;rcases hi with rfl|rfl
  ·cases ho;exact h
  ·cases ho;exact h
 case fw=>
  intro e he hk v W h b hb;simp only [List.mem_cons,List.not_mem_nil,or_false] at he hk
  have q:NewC W0.heap.size v W:=by
   rcases he with rfl|rfl|rfl|rfl|rfl|rfl
   ·simp at hk
   ·simp at hk
   ·simp at hk
   ·simp at hk
   ·exact h
   ·exact h
  obtain ⟨g,L,e2,_⟩:=q;rw [L] at hb;obtain rfl:g=b:=Option.some.inj hb;exact a_i e2
 case ph=>
  intro e he v W W' h hb;simp only [List.mem_cons,List.not_mem_nil,or_false] at he;rcases he with rfl|rfl|rfl|rfl|rfl|rfl
  ·exact TupR.up h hb
  ·exact TupR.up h hb
  ·exact OwnT.up h hb
  ·exact OwnT.up h hb
  ·exact NewC.up h hb
  ·exact NewC.up h hb
 apply Exists.intro;refine ⟨?yt,?yl,?wk,?pk,?st,?sa,?rest⟩
 case wk=>
  intro x;simp only [List.take_succ_cons,List.take_zero]
  iterate 12
   refine a_l rfl rfl ?_;apply Exists.intro;refine ⟨fun F hF hf K hK=>?_,?_⟩
   ·have hFc:=hF.cell;have hFf:=hF.frozen
    go_big_quiet_op
    first|exact hK|(apply Exists.intro;refine ⟨fun _=>?_,?_⟩;(· fail);exact hK)
   (try simp only [Act.put,sA_,sB_,sC_])
  refine a_q rfl rfl ?_ ?_
  ·intro F hF hf d;have hFc:=hF.cell;have hFf:=hF.frozen;simp [a_k,a_f,go_sem];refine (aF.out (F d) _ _ _ _ _ _ (a_c ac.out (hF.below d))).mono ?_;rintro e' w8 ⟨v8,v9,rfl,h8,h9,a7⟩;exact ⟨_,rfl,⟨v8,v9,rfl,(h8.low (hF.below d).size).own,(h9.low (hF.below d).size).own⟩,a7⟩
  (try simp only [Act.put,sA_,sB_,sC_])
  refine a_q rfl rfl ?_ ?_
  ·intro F hF hf d;have hFc:=hF.cell;have hFf:=hF.frozen;have h9:=hf _ List.mem_cons_self (by rfl) d;simp [a_k,a_f,go_sem];exact ⟨h9,Below.refl _ _⟩
  (try simp only [Act.put,sA_,sB_,sC_])
  refine a_q rfl rfl ?_ ?_
  ·intro F hF hf d;have hFc:=hF.cell;have hFf:=hF.frozen;have h9:=hf _ (List.mem_cons_of_mem _ List.mem_cons_self) (by rfl) d;obtain ⟨u9,q9,e9,o9,o8⟩:=h9;simp only [] at e9;simp [a_k,a_f,go_sem,e9];exact ⟨o9,Below.refl _ _⟩
  (try simp only [Act.put,sA_,sB_,sC_])
  refine a_q rfl rfl ?_ ?_
  ·intro F hF hf d;have hFc:=hF.cell;have hFf:=hF.frozen;have h9:=hf _ (List.mem_cons_of_mem _ List.mem_cons_self) (by rfl) d;obtain ⟨u9,q9,e9,o9,o8⟩:=h9;simp only [] at e9;simp [a_k,a_f,go_sem,e9];exact ⟨o8,Below.refl _ _⟩
  (try simp only [Act.put,sA_,sB_,sC_])
  refine a_l rfl rfl ?_;apply Exists.intro;refine ⟨fun F hF hf K hK=>?_,?_⟩
  ·have hFc:=hF.cell;have hFf:=hF.frozen;have h9:=hf _ (List.mem_cons_of_mem _ List.mem_cons_self) (by rfl);obtain ⟨u9,q9,e9,_⟩:=h9 W0;simp only [] at e9
   go_big_quiet_op
   first|exact hK|(apply Exists.intro;refine ⟨fun _=>?_,?_⟩;(· fail);exact hK)
  iterate 2
   (try simp only [Act.put,sA_,sB_,sC_])
   refine a_q rfl rfl ?_ ?_
   ·intro F hF hf d;have hFc:=hF.cell;have hFf:=hF.frozen;simp [a_k,a_f,go_sem];exact ⟨⟨(F d).heap.size,rfl,by show ((F d).heap.push _)[(F d).heap.size]?=_;simp,(hF.below d).size⟩,a_b _ _⟩
  (try simp only [Act.put,sA_,sB_,sC_])
  refine b_c ?_;exact rfl
 case pk=>
  intro x;simp only [b_l,List.foldl_cons,List.foldl_nil,Act.put,sA_,sB_,sC_]
 case yt=>
  intro i0 hi o0 ho e he W x hx;simp only [List.mem_cons,List.not_mem_nil,or_false] at hi;rcases hi with rfl|rfl
  ·cases ho;have a8:(⟨15,43,OwnT W0.heap.size RB.1 RB.2⟩:Told)=e:=Option.some.inj he;subst a8;obtain ⟨u9,q9,e9,n9,o9⟩:=hx _ (List.mem_cons_of_mem _ List.mem_cons_self) (by rfl);simp only [] at e9;refine ⟨q9,o9,.inl ⟨by rfl,fun w=>?_⟩⟩;simp [execOp,Act.eval,e9,go_sem]
  ·cases he
 case yl=>
  intro i0 hi o0 ho hn x hx;simp only [List.mem_cons,List.not_mem_nil,or_false] at hi;rcases hi with rfl|rfl
  ·cases hn
  ·cases ho;obtain ⟨W9,u9,q9,e9,_⟩:=hx _ (List.mem_cons_of_mem _ List.mem_cons_self) (by rfl);simp only [] at e9;refine ⟨.int .i64 0,fun t ht=>?_,.inl ⟨by rfl,fun w=>?_⟩⟩
   ·cases ht;rfl
   ·simp [execOp,Act.eval,e9,go_sem]
 case st=>
  intro e he hk o ho x F hF hf d;simp only [List.mem_cons,List.not_mem_nil,or_false] at he;rcases he with rfl|rfl|rfl|rfl|rfl|rfl
  ·exact absurd hk (by simp)
  ·exact absurd hk (by simp)
  ·exact absurd hk (by simp)
  ·exact absurd hk (by simp)
  ·cases ho;refine b_f (φ:=fun v H=>v = .pointer (some ⟨(F d).heap.size,0,none⟩)/\H=(F d).alloc (.cells #[.slice none 0 0,.slice none 0 0] 77)) ?_ ?_
   ·rintro v H ⟨rfl,rfl⟩;exact ⟨⟨(F d).heap.size,rfl,by show ((F d).heap.push _)[(F d).heap.size]?=_;simp,(hF.below d).size⟩,fun b hb=>.inl (Nat.le_of_eq (Option.some.inj hb))⟩
   ·simp [a_k,a_f,go_sem]
    first|exact a_b _ _|exact ⟨⟨rfl,rfl⟩,a_b _ _⟩
  ·exact absurd hk (by simp)
 case sa=>
  intro e he hk o ho x F hF hf d;simp only [List.mem_cons,List.not_mem_nil,or_false] at he;rcases he with rfl|rfl|rfl|rfl|rfl|rfl
  ·exact absurd hk (by simp)
  ·exact absurd hk (by simp)
  ·exact absurd hk (by simp)
  ·exact absurd hk (by simp)
  ·exact absurd hk (by simp)
  ·cases ho;refine b_f (φ:=fun v H=>v = .pointer (some ⟨(F d).heap.size,0,none⟩)/\H=(F d).alloc (.cells #[.slice none 0 0,.slice none 0 0] 77)) ?_ ?_
   ·rintro v H ⟨rfl,rfl⟩;exact ⟨⟨(F d).heap.size,rfl,by show ((F d).heap.push _)[(F d).heap.size]?=_;simp,(hF.below d).size⟩,fun b hb=>Nat.le_of_eq (Option.some.inj hb)⟩
   ·simp [a_k,a_f,go_sem]
    first|exact a_b _ _|exact ⟨⟨rfl,rfl⟩,a_b _ _⟩
 intro z1 xs am hf a4;simp only [List.drop_succ_cons,List.drop_zero];have ap:=a4 _ _ (List.mem_cons_of_mem _ (List.mem_cons_of_mem _ (List.mem_cons_of_mem _ (List.mem_cons_of_mem _ List.mem_cons_self)))) (List.mem_cons_of_mem _ (List.mem_cons_of_mem _ (List.mem_cons_of_mem _ (List.mem_cons_of_mem _ (List.mem_cons_of_mem _ List.mem_cons_self))))) (by simp) (by simp);obtain ⟨pa,na,ca,pb,I,cb,ev,o1,o2⟩:=hf _ (List.mem_cons_of_mem _ (List.mem_cons_of_mem _ List.mem_cons_self));obtain ⟨pc,nc,cc,pd,nd,cd,ew,o3,o4⟩:=hf _ (List.mem_cons_of_mem _ (List.mem_cons_of_mem _ (List.mem_cons_of_mem _ List.mem_cons_self)));obtain ⟨g7,eb,ad,aV⟩:=hf _ (List.mem_cons_of_mem _ (List.mem_cons_of_mem _ (List.mem_cons_of_mem _ (List.mem_cons_of_mem _ List.mem_cons_self))));obtain ⟨J,ar,ag,aC⟩:=hf _ (List.mem_cons_of_mem _ (List.mem_cons_of_mem _ (List.mem_cons_of_mem _ (List.mem_cons_of_mem _ (List.mem_cons_of_mem _ List.mem_cons_self)))));simp only [] at ev ew eb ar ap;rw [eb,ar] at ap;have ay:g7≠J:=fun e=>ap g7 rfl (by rw [e];rfl);obtain ⟨bj,aK⟩:∃ q,xs 12=q:=⟨_,rfl⟩
 obtain ⟨bk,aH⟩:∃ q,xs 13=q:=⟨_,rfl⟩
 simp only [ev,ew,eb,ar,aK,aH];have aS:Below W0.heap.size W0 (set2 (set2 z1 g7 (.slice pa na ca) (.slice pb I cb)) J (.slice pc nc cc) (.slice pd nd cd)):=a_8 (a_8 am g7 aV _ _) J aC _ _;have a6:z1.heap[nb]?=some (.cells #[.int .i64 op,.int .i64 a,.int .i64 b,.int .i64 k,.slice ps ab cs,.slice pt nt ct] 107 (0,0)):=(am.block _ (a_i HX.out)).trans HX.out;have bl:=a_i HX.out;have bg:nb≠g7:=by omega
 have bf:nb≠J:=by omega
 have f1:=o1.off_type ad (by decide);have f2:=o2.off_type ad (by decide);have f3:=o3.off_type ad (by decide);have f4:=o4.off_type ad (by decide);have f5:=o1.off_type ag (by decide);have f6:=o2.off_type ag (by decide);have f7:=o3.off_type ag (by decide);have f8:=o4.off_type ag (by decide);have t1:=Stay.set2 (g:=g7) z1 (.slice pa na ca) (.slice pb I cb);have t2:=Stay.set2 (g:=J) (set2 z1 g7 (.slice pa na ca) (.slice pb I cb)) (.slice pc nc cc) (.slice pd nd cd);have y7:Cel (set2 (set2 z1 g7 (.slice pa na ca) (.slice pb I cb)) J (.slice pc nc cc) (.slice pd nd cd)) g7 (.slice pa na ca) (.slice pb I cb):=((c_r ad).set _ _).stay t2 ay;have y8:Cel (set2 (set2 z1 g7 (.slice pa na ca) (.slice pb I cb)) J (.slice pc nc cc) (.slice pd nd cd)) J (.slice pc nc cc) (.slice pd nd cd):=((c_r ag).stay t1 (Ne.symm ay)).set _ _;have HU:Hid ((Cel (set2 (set2 z1 g7 (.slice pa na ca) (.slice pb I cb)) J (.slice pc nc cc) (.slice pd nd cd)) g7 (.slice pa na ca) (.slice pb I cb)/\Cel (set2 (set2 z1 g7 (.slice pa na ca) (.slice pb I cb)) J (.slice pc nc cc) (.slice pd nd cd)) J (.slice pc nc cc) (.slice pd nd cd))/\(OwnK .i64 3 (set2 (set2 z1 g7 (.slice pa na ca) (.slice pb I cb)) J (.slice pc nc cc) (.slice pd nd cd)) W0.heap.size (.slice pa na ca) RA.1/\OwnK .i64 48 (set2 (set2 z1 g7 (.slice pa na ca) (.slice pb I cb)) J (.slice pc nc cc) (.slice pd nd cd)) W0.heap.size (.slice pb I cb) RA.2/\OwnK .i64 3 (set2 (set2 z1 g7 (.slice pa na ca) (.slice pb I cb)) J (.slice pc nc cc) (.slice pd nd cd)) W0.heap.size (.slice pc nc cc) RB.1/\OwnK .i64 48 (set2 (set2 z1 g7 (.slice pa na ca) (.slice pb I cb)) J (.slice pc nc cc) (.slice pd nd cd)) W0.heap.size (.slice pd nd cd) RB.2)/\Below W0.heap.size W0 (set2 (set2 z1 g7 (.slice pa na ca) (.slice pb I cb)) J (.slice pc nc cc) (.slice pd nd cd))/\W0.heap.size<=J):=⟨⟨y7,y8⟩,⟨(o1.stay t1 f1).stay t2 f5,(o2.stay t1 f2).stay t2 f6,(o3.stay t1 f3).stay t2 f7,(o4.stay t1 f4).stay t2 f8⟩,aS,aC⟩
 obtain ⟨r0,r1,r2,r3⟩:=c_r ad;obtain ⟨r4,r5,r6,r7⟩:=c_r ag;have z7:=a_a r0;have z8:=a_a r4;have be:J≠g7:=Ne.symm ay;clear f1 f2 f3 f4 f5 f6 f7 f8 o1 o2 o3 o4 t1 t2 y7 y8 aS ad aV ag aC hf a4 ap ev ew eb ar aK aH am aF b0 b1 c0 M k0 k1 k2 k3 k4 k5 kb kc;obtain ⟨U,eU⟩:∃ U,(set2 (set2 z1 g7 (.slice pa na ca) (.slice pb I cb)) J (.slice pc nc cc) (.slice pd nd cd))=U:=⟨_,rfl⟩
 have HK:Hid (U.heap[nb]?=some (.cells #[.int .i64 op,.int .i64 a,.int .i64 b,.int .i64 k,.slice ps ab cs,.slice pt nt ct] 107 (0,0))):=by
  show _=_;rw [<- eU,HU.out.2.2.1.block _ (a_i HX.out)];exact HX.out
 obtain ⟨⟨k0,k1,k2,k3,k4,k5⟩,_⟩:=g_s HK.out;have kn:=a_i HK.out;rw [eU] at HU;obtain ⟨q0,q1,_,_⟩:=HU.out.1.1;have kq:=a_a q0;clear a6;go_wp2_with fail
 clear eU k0 k1 k2 k3 k4 k5 kn q0 q1 kq r0 r1 r2 r3 r4 r5 r6 r7 z7 z8;have aj:Hid (Below w.heap.size w U):=a_c ac.out HU.out.2.2.1;have aR:B<=U.heap.size:=Nat.le_trans HS.out.2 aj.out.size;refine (aP.out U _ _ _ _ _ _ (HS.out.1.up aj.out) aR HU.out.2.1.1.nums HU.out.2.1.2.1.nums).mono ?_;rintro e w3 ⟨rfl,aI,aM,av⟩;obtain ⟨bi,aQ,_⟩:=(HS.out.1.up aj.out).hg;have a2:=(HS.out.1.up aj.out).hv;have oU:=av.only aQ a2;have aN:J < U.heap.size:=a_a HU.out.1.2.1
 have a9:V < W0.heap.size:=by
  obtain ⟨bh,bc,_⟩:=(HS.out.1.up ac.out).hg;exact a_i bc
 have a5:vb < W0.heap.size:=a_i (HS.out.1.up ac.out).hv;have bb:=HU.out.2.2.2;have e8:w3.heap[J]?=U.heap[J]?:=av.2 J aN (by omega) (by omega);have b8:Below (U.heap.size) U U:=Below.refl _ _;have ai:Hid ((SwC w3 B O tb V vb N s1.1 s1.2/\B<=w3.heap.size)/\(Nums .i64 w3 (.slice pc nc cc) RB.1/\Nums .i64 w3 (.slice pd nd cd) RB.2)/\Below B w w3):=⟨⟨aI,Nat.le_trans aR av.1⟩,⟨(HU.out.2.1.2.2.1.only oU (by decide)).nums,(HU.out.2.1.2.2.2.only oU (by decide)).nums⟩,(aj.out.mono HS.out.2).trans aM⟩
 obtain ⟨⟨k0,k1,k2,k3,k4,k5⟩,_⟩:=g_s (oU.keep HK.out (by decide));have kn:=a_i (oU.keep HK.out (by decide))
 have ae:∀ o v,U.cell? ⟨J,o,none⟩=some v->w3.cell? ⟨J,o,none⟩=some v:=fun o v h=>by
  unfold World.cell? at h ⊢;rw [show w3.heap[(⟨J,o,none⟩:Addr).block]?=U.heap[(⟨J,o,none⟩:Addr).block]? from e8];exact h
 have r4:=ae 0 _ HU.out.1.2.1;have r5:=ae 1 _ HU.out.1.2.2.1;have z8:=a_a r4;clear ae e8 b8 a5 a9 aN oU a2 aQ aI aM av aP HU aj bb;go_wp2_with fail
 refine (aD.out w3 _ _ _ _ _ _ ai.out.1.1 ai.out.1.2 ai.out.2.1.1 ai.out.2.1.2).mono ?_;rintro e w4 ⟨rfl,a1,aX,_⟩;have HF:Hid (SwC w4 B O tb V vb N s2.1 s2.2/\Below B w w4):=⟨a1,ai.out.2.2.trans aX⟩
 clear a1 aX ai k0 k1 k2 k3 k4 k5 kn r4 r5 z8 aD;go_wp2;exact bodyPost_ret (v:=.int .i64 0) (by simp [results,Tryz.results42,go_sem]) rfl ⟨rfl,HF.out⟩
/-- A row that was just made: all its cells are one value. -/
theorem o_9 {z:Array Value} {v:Value} (E:0 < z.size) (h:∀ i,i < z.size->z[i]?=some v) (n:Nat):madeCells z n=(List.replicate n v).toArray:=by
 apply Array.toList_inj.1;refine List.ext_getElem? fun j=>?_;by_cases D:j < n
 ·have e:=h (j % z.size) (Nat.mod_lt _ E);unfold madeCells;show _=(List.replicate n v)[j]?;rw [Array.getElem?_toList,Array.getElem?_map,Array.getElem?_range,if_pos D,List.getElem?_replicate,if_pos D];simp only [Option.map_some];rw [getElem!_def,e]
 ·rw [List.getElem?_eq_none (by rw [Array.length_toList,size_madeCells];omega),List.getElem?_eq_none (by simp;omega)]
theorem p_M {P:Program} {t e:TypeId} {z v:Value} {sz b:Nat} (J:P.underlying t=some (.slice e)) (D:(P.info? e).map (fun i=>(i.zero,i.size,i.bytes))=some (some z,sz,b)) (hb:b<=128) (O:0 < z.cells.size) (h:∀ i,i < z.cells.size->z.cells[i]?=some v) (n:Nat) (M:n<=100000) (W:World):
  (Instr.makeSlice t (.int .i64 (n:Int)) (.int .i64 (n:Int))).run P W = .ok (.slice (some ⟨W.heap.size,0,none⟩) n n) (W.alloc (.cells (List.replicate (n*sz) v).toArray e)):=by
 cases H:P.info? e with
 | none=>rw [H] at D;cases D
 | some i=>
  rw [H] at D;simp only [Option.map_some,Option.some.injEq,Prod.mk.injEq] at D;obtain ⟨U,L,R⟩:=D;have V:b*n<=128*100000:=Nat.mul_le_mul hb M
  have E:(i.bytes:Int)*(n:Int)<=281474976710656:=by
   have q:((i.bytes*n:Nat):Int)<=281474976710656:=by rw [R];omega
   rwa [Int.natCast_mul] at q
  have I:=run_make (P:=P) W t e i z J H U .i64 .i64 n n (by omega) (Int.le_refl _) E (by omega);simp only [Int.toNat_natCast] at I;rw [I,L,o_9 O h]
end Go.Proofs.YtcpbhhlepdgdkaaGreatDoor.Wd
